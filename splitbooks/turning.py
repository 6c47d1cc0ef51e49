"""Rooms in which things turn things about, from both sides."""

from splitbooks.axes import cube_flat, cube_folded, moved, summed
from splitbooks.checks import need_book
from splitbooks.known import Known
from splitbooks.linear import flat, inverse
from splitbooks.rooms import Room


def _turned(book, halves, back):
    """The leads of things: halves has at x, c, d numbers; d joined to y is joined to what the map back leads c to."""
    size = book.size
    joins = cube_flat(book.joins)
    # At x, c, y, m: d joined to y; at c, m, z: m joined to what c is led to.
    ahead = summed(halves, joins, size, book.prime)
    behind = summed(flat(back), moved(joins, [size] * 3, [1, 0, 2]), size, book.prime)
    led = summed(moved(ahead, [size] * 4, [0, 2, 1, 3]), behind, size * size, book.prime)
    return cube_folded(led, size, size)


def turning_leads(book):
    """The squares by which each x leads y to its first half joined to y joined to the back of its second half."""
    return _turned(book, moved(cube_flat(book.splits), [book.size] * 3, [0, 2, 1]), book.back)


def turning_back_leads(book):
    """The squares by which each x leads y to its second half joined to y joined to the first one's back undone."""
    return _turned(book, cube_flat(book.splits), inverse(book.back, book.prime))


def turning_room(book):
    """The room of the things that each thing turns about, its first half ahead, the back of its second half behind."""
    need_book(book)
    return Room(book, Known(turning_leads(book)))


def turning_back_room(book):
    """The room of the things that each thing turns about, its second half ahead, the first one's back undone behind."""
    need_book(book)
    return Room(book, Known(turning_back_leads(book)))
