"""Rooms beside one another, rooms put together, and rooms turned about."""

from splitbooks.axes import cube_flat, cube_folded, moved, summed
from splitbooks.errors import TooMany
from splitbooks.known import Known
from splitbooks.linear import across, flat, inverse
from splitbooks.rooms import MOST_GUESTS, Room, need_room, need_two_rooms


def need_few_guests(many):
    """TooMany(36) if these are more guests than a room may have."""
    if many > MOST_GUESTS:
        raise TooMany(MOST_GUESTS)


def leads_beside(book, one, other):
    """The leads of guests of one beside guests of other: the first halves of splits lead those of one."""
    prime = book.prime
    size = book.size
    wide = len(one[0])
    high = len(other[0])
    # At x, b, i, s: the first halves that stand beside b lead i to s.
    halves = moved(cube_flat(book.splits), [size] * 3, [0, 2, 1])
    led = summed(halves, cube_flat(one), size, prime)
    # At x, i, s, j, t: b leads j to t.
    led = summed(moved(led, [size, size, wide, wide], [0, 2, 3, 1]), cube_flat(other), size, prime)
    many = wide * high
    return cube_folded(moved(led, [size, wide, wide, high, high], [0, 1, 3, 2, 4]), many, many)


def beside_rooms(one, other):
    """The room of guests of one beside guests of other."""
    need_two_rooms(one, other)
    need_few_guests(one.size * other.size)
    return Room(one.book, Known(leads_beside(one.book, one.leads, other.leads)))


def rooms_together(one, other):
    """The room of the guests of one and then those of other, each led as there."""
    need_two_rooms(one, other)
    need_few_guests(one.size + other.size)
    before = (0,) * one.size
    behind = (0,) * other.size
    leads = [tuple([row + behind for row in square] + [before + row for row in line])
             for square, line in zip(one.leads, other.leads)]
    return Room(one.book, Known(tuple(leads)))


def _turned_by(room, back):
    """The room of the rows: x leads f to the row that tells of v what f tells of what the back of x leads v to."""
    flats = flat([flat(across(square)) for square in room.leads])
    led = summed(flat(back), flats, room.book.size, room.book.prime)
    return Room(room.book, Known(cube_folded(led, room.size, room.size)))


def turned_room(room):
    """The room of the rows that tell of guests, turned about by the back."""
    need_room(room)
    return _turned_by(room, room.book.back)


def turned_back_room(room):
    """The room of the rows that tell of guests, turned about by the back undone."""
    need_room(room)
    return _turned_by(room, inverse(room.book.back, room.book.prime))
