"""Guests that are exchanged by a crossing, strand by strand along a braid."""

from splitbooks.axes import cube_flat, moved, summed
from splitbooks.braids import need_braid
from splitbooks.checks import need_few
from splitbooks.crossings import crossing_of
from splitbooks.errors import TooMany
from splitbooks.linear import flat, folded, inverse, led_all, plain
from splitbooks.rooms import need_room, need_two_rooms

MOST_PLACES = 64


def _exchange_of(one, other, square):
    """The exchange of two rooms of one book by a crossing that is taken."""
    many = one.book.size
    prime = one.book.prime
    # At a, j, t: the second halves that stand beside a lead j to t. At i, s, a: a leads i to s.
    behind = summed(flat(square), cube_flat(other.leads), many, prime)
    ahead = moved(cube_flat(one.leads), [many, one.size, one.size], [1, 2, 0])
    led = summed(ahead, behind, many, prime)
    led = moved(led, [one.size, one.size, other.size, other.size], [0, 2, 3, 1])
    return folded(led, one.size * other.size)


def exchange(one, other, square):
    """The map of guest i of one beside guest j of other to j led by second halves beside i led by first ones."""
    need_two_rooms(one, other)
    square = crossing_of(one.book, square)
    if one.size * other.size > MOST_PLACES:
        raise TooMany(MOST_PLACES)
    return _exchange_of(one, other, square)


def many_places(size, strands):
    """How many rows of guests there are, one guest for each strand."""
    many = 1
    for _ in range(strands):
        many = many * size
    return many


def placed(step, ahead, behind):
    """The map that leads places by a map step: so many rows of guests stand ahead of what it leads, so many behind."""
    return tuple([
        tuple([number if i == j and s == t else 0 for j in range(ahead) for number in row for t in range(behind)])
        for i in range(ahead) for row in step for s in range(behind)])


def braided(prime, step, size, strands, braid):
    """The map that the steps of a braid make, each leading two neighbouring guests by the map step, or undoing it."""
    steps = {}
    rows = plain(many_places(size, strands))
    for number in braid:
        if number not in steps:
            led = step if number > 0 else inverse(step, prime)
            k = abs(number)
            steps[number] = placed(led, many_places(size, k - 1), many_places(size, strands - k - 1))
        rows = led_all(rows, steps[number], prime)
    return rows


def braid_map_of(room, square, strands, braid):
    """The map of a braid for a crossing that is taken; TooMany(64) if there are more places."""
    need_few(room.size, strands, MOST_PLACES)
    step = _exchange_of(room, room, square) if braid else None
    return braided(room.book.prime, step, room.size, strands, braid)


def braid_map(room, square, strands, braid):
    """The map that the steps of a braid make of rows of guests, one for each strand."""
    need_room(room)
    square = crossing_of(room.book, square)
    need_braid(strands, braid)
    return braid_map_of(room, square, strands, braid)
