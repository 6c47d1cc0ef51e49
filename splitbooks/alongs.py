"""Maps that go along with what things lead to; guests that things leave alone; parts of rooms, and what is left."""

from splitbooks.errors import BadBasis, BadRow, TooMany
from splitbooks.known import Known
from splitbooks.linear import down_map, first_place, flat, folded, inverse, led_all, places_left, tidy_list
from splitbooks.makers import makers_of
from splitbooks.rooms import Room, need_room, need_two_rooms
from splitbooks.stairs import kernel
from splitbooks.swallowed import multiplied_by
from splitbooks.values import is_map, is_row_list, rows_of

MOST_NUMBERS = 100


def need_few_numbers(many):
    """TooMany(100) if these are more numbers than a map that is sought may have."""
    if many > MOST_NUMBERS:
        raise TooMany(MOST_NUMBERS)


def goes_along(one, other, rows):
    """Whether each thing ahead of the map, and the map ahead of it, lead each guest of one to the same."""
    prime = one.book.prime
    for x in makers_of(prime, one.book.joins):
        if led_all(one.leads[x], rows, prime) != led_all(rows, other.leads[x], prime):
            return False
    return True


def is_along(one, other, thing):
    """Whether thing, any value, is a map that goes along from one to other."""
    need_two_rooms(one, other)
    if not is_map(thing, one.size, other.size):
        return False
    return goes_along(one, other, rows_of(thing, one.book.prime))


def along_differences(prime, firsts, lasts):
    """For each map that has 1 at one place p, q: a square of firsts and then it, less it and then one of lasts.

    There are as many squares of firsts as of lasts. All differences of a map stand in one row; p, q ascend.
    """
    wide = len(firsts[0])
    high = len(lasts[0])
    found = []
    for p in range(wide):
        for q in range(high):
            row = []
            for first, last in zip(firsts, lasts):
                part = [0] * (wide * high)
                part[q::high] = [line[p] for line in first]
                start = p * high
                part[start:start + high] = [number - more for number, more in zip(part[start:start + high], last[q])]
                row.extend([number % prime for number in part])
            found.append(row)
    return found


def along_maps(one, other):
    """The list of maps, each as one row, that are the tidy list of all that go along."""
    makers = makers_of(one.book.prime, one.book.joins)
    firsts = [one.leads[x] for x in makers]
    lasts = [other.leads[x] for x in makers]
    return kernel(along_differences(one.book.prime, firsts, lasts), one.book.prime)


def alongs(one, other):
    """The list of the maps that make all maps that go along from one to other, tidy as rows."""
    need_two_rooms(one, other)
    need_few_numbers(one.size * other.size)
    return [folded(row, other.size) for row in along_maps(one, other)]


def left_alone(room):
    """The tidy list of the guests that each thing leads to its count times them."""
    need_room(room)
    return multiplied_by(room.book.prime, room.leads, room.book.counts)


def grown_rows(room, rows):
    """The tidy list of all that things lead these guests to."""
    prime = room.book.prime
    tidy = tidy_list(rows, prime)
    return tidy_list(flat([led_all(tidy, square, prime) for square in room.leads]), prime)


def grown_guests(room, guests):
    """The tidy list of all that things lead these guests to."""
    need_room(room)
    if not is_row_list(guests, room.size):
        raise BadRow("a list of guests of the room is wanted")
    return grown_rows(room, rows_of(guests, room.book.prime))


def is_inner(room, thing):
    """Whether thing, any value, is an inner list of the room."""
    need_room(room)
    if not is_row_list(thing, room.size) or len(thing) == 0:
        return False
    rows = rows_of(thing, room.book.prime)
    tidy = tidy_list(rows, room.book.prime)
    return len(tidy) == len(rows) and grown_rows(room, tidy) == tidy


def inner_rows(room, value):
    """The rows of the inner list that value is; BadBasis if it is none."""
    if not is_inner(room, value):
        raise BadBasis("an inner list of the room is wanted")
    return rows_of(value, room.book.prime)


def leads_within(room, rows):
    """The leads of the guests that the rows of an inner list stand for."""
    prime = room.book.prime
    places = [first_place(row) for row in tidy_list(rows, prime)]
    # By its numbers at these places each sum of multiples of the rows is told.
    undone = inverse([[row[place] for place in places] for row in rows], prime)
    squares = [led_all(rows, square, prime) for square in room.leads]
    return tuple([led_all([[row[place] for place in places] for row in led], undone, prime) for led in squares])


def inner_room(room, guests):
    """The room whose guests stand for those of an inner list."""
    need_room(room)
    return Room(room.book, Known(leads_within(room, inner_rows(room, guests))))


def left_over(room, guests):
    """The room of what is left if sums of multiples of an inner list are 0; None if nothing is left."""
    need_room(room)
    rows = inner_rows(room, guests)
    if len(rows) == room.size:
        return None
    prime = room.book.prime
    tidy = tidy_list(rows, prime)
    places = places_left(tidy, room.size)
    down = down_map(tidy, room.size, prime)
    leads = [led_all([square[place] for place in places], down, prime) for square in room.leads]
    return Room(room.book, Known(tuple(leads)))
