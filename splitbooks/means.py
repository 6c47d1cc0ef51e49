"""Means of maps over the thing that is swallowed left: they go along; rooms that are spread, and what is parted off."""

from splitbooks.alongs import along_differences, inner_rows, need_few_numbers
from splitbooks.axes import cube_flat, moved, summed
from splitbooks.errors import BadMap
from splitbooks.forms import passing_square
from splitbooks.linear import combined, flat, folded, inverse, led_all, places_left, plain, tidy_list, unit
from splitbooks.makers import makers_of
from splitbooks.powers import number_undone
from splitbooks.rooms import need_room, need_two_rooms
from splitbooks.stairs import solved
from splitbooks.swallowed import swallowed_left
from splitbooks.tables import row_counted
from splitbooks.values import is_map, rows_of


def _backs_led(room):
    """At a, i, p: guest i led by the back of what stands beside the half a in the split of swallowed_left, at p."""
    return summed(flat(passing_square(room.book)), cube_flat(room.leads), room.book.size, room.book.prime)


def mean_map(one, other, rows):
    """The mean of a map: the back of second halves leads, then the map, then the first halves lead."""
    need_two_rooms(one, other)
    if not is_map(rows, one.size, other.size):
        raise BadMap("a map from the one room's size to the other one's is wanted")
    prime = one.book.prime
    size = one.book.size
    led = summed(_backs_led(one), flat(rows_of(rows, prime)), one.size, prime)
    led = moved(led, [size, one.size, other.size], [1, 0, 2])
    return folded(summed(led, cube_flat(other.leads), size * other.size, prime), other.size)


def _all_means(room):
    """The list of the means, each as one row, of the maps that have 1 at one place: p, q, from the first place on."""
    size = room.size
    prime = room.book.prime
    many = room.book.size
    # At p, i, q, t: the map that leads p to q is led from i to t.
    backs = moved(_backs_led(room), [many, size, size], [2, 1, 0])
    led = summed(backs, cube_flat(room.leads), many, prime)
    return list(folded(moved(led, [size] * 4, [0, 2, 1, 3]), size * size))


def spread_map(room):
    """A map of which the mean is the plain map; None if there is none."""
    need_room(room)
    need_few_numbers(room.size * room.size)
    prime = room.book.prime
    wanted = flat(plain(room.size))
    count = row_counted(prime, room.book.counts, swallowed_left(room.book))
    if count:
        # The mean of a map that goes along is this count times it.
        return folded(combined([number_undone(count, prime)], [wanted], prime), room.size)
    numbers = solved(_all_means(room), wanted, prime)
    return None if numbers is None else folded(numbers, room.size)


def _rest_parted(room, basis, undone, many):
    """What the further rows of a basis, the first many of which are an inner list, lose to these; None if they cannot.

    It is told for each further row by the numbers of the first ones.
    """
    prime = room.book.prime
    further = basis[many:]
    inner = []
    rest = []
    wanted = []
    for x in makers_of(prime, room.book.joins):
        inner.append([row[:many] for row in led_all(led_all(basis[:many], room.leads[x], prime), undone, prime)])
        led = led_all(led_all(further, room.leads[x], prime), undone, prime)
        rest.append([row[many:] for row in led])
        wanted.extend([-number % prime for row in led for number in row[:many]])
    numbers = solved(along_differences(prime, rest, inner), wanted, prime)
    return None if numbers is None else folded(numbers, many)


def parting(room, guests):
    """A map that goes along, leads guests of an inner list to themselves and all to sums of these; or None."""
    need_room(room)
    rows = inner_rows(room, guests)
    need_few_numbers(room.size * len(rows))
    if len(rows) == room.size:
        return plain(room.size)
    prime = room.book.prime
    places = places_left(tidy_list(rows, prime), room.size)
    basis = rows + tuple([unit(room.size, place) for place in places])
    undone = inverse(basis, prime)
    lost = _rest_parted(room, basis, undone, len(rows))
    if lost is None:
        return None
    return led_all(undone, rows + led_all(lost, rows, prime), prime)
