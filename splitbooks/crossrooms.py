"""Rooms whose guests fall, crosswise with what things lead them to; they are the rooms of doubles."""

from splitbooks.axes import cube_flat, cube_folded, moved, summed
from splitbooks.besides import leads_beside, need_few_guests
from splitbooks.bothfaults import right_both
from splitbooks.checks import need_book
from splitbooks.crossings import crossing_of
from splitbooks.doubles import double, double_tables, from_rows, from_things, need_few_pairs
from splitbooks.errors import BadRoom, BadShape
from splitbooks.known import Known
from splitbooks.linear import flat, folded, inverse
from splitbooks.rooms import Room, need_room
from splitbooks.turning import turning_back_leads, turning_leads


class CrossRoom:
    """A room of guests that fall: leading the guests of a fall and falling once led are alike, crosswise."""

    def __init__(self, book, leads, falls):
        leads, falls = right_both(book, leads, falls, True)
        self.book = book
        self.size = len(falls)
        self.leads = leads
        self.falls = falls

    def __eq__(self, other):
        return (isinstance(other, CrossRoom) and self.book == other.book and self.leads == other.leads
                and self.falls == other.falls)


def need_cross(cross):
    """BadRoom(None) unless a CrossRoom is given."""
    if not isinstance(cross, CrossRoom):
        raise BadRoom(None)


def need_two_crosses(one, other):
    """BadRoom(None) unless two CrossRooms are given, BadShape("book") unless their books are equal."""
    need_cross(one)
    need_cross(other)
    if one.book != other.book:
        raise BadShape("book")


def known_cross(book, leads, falls):
    """The CrossRoom of leads and falls, as tuples modulo the prime, that are known to be right."""
    return CrossRoom(book, Known(leads), Known(falls))


def turning_cross(book):
    """The things that are turned about, falling into second halves paired with the back undone of first ones."""
    need_book(book)
    size = book.size
    halves = moved(cube_flat(book.splits), [size] * 3, [0, 2, 1])
    falls = summed(halves, flat(inverse(book.back, book.prime)), size, book.prime)
    return known_cross(book, turning_leads(book), cube_folded(falls, size, size))


def turning_back_cross(book):
    """The things that are turned about the other way, falling into first halves paired with second ones."""
    need_book(book)
    return known_cross(book, turning_back_leads(book), book.splits)


def crossing_cross(room, square):
    """A room whose guests fall by a crossing: second halves lead them, paired with first ones."""
    need_room(room)
    square = crossing_of(room.book, square)
    many = room.book.size
    size = room.size
    falls = summed(flat(square), cube_flat(room.leads), many, room.book.prime)
    falls = moved(falls, [many, size, size], [1, 2, 0])
    return known_cross(room.book, room.leads, cube_folded(falls, size, many))


def beside_cross(one, other):
    """The room of guests of one beside those of other; things of falls of other are joined ahead of those of one."""
    need_two_crosses(one, other)
    need_few_guests(one.size * other.size)
    book = one.book
    many = book.size
    wide = one.size
    high = other.size
    # At v, s, z, t: z joined to the thing with which v falls into s; then at w, u, v, s, t.
    joins = moved(cube_flat(book.joins), [many] * 3, [1, 0, 2])
    first = summed(cube_flat(one.falls), joins, many, book.prime)
    first = moved(first, [wide, wide, many, many], [2, 0, 1, 3])
    falls = summed(cube_flat(other.falls), first, many, book.prime)
    falls = moved(falls, [high, high, wide, wide, many], [2, 0, 3, 1, 4])
    return known_cross(book, leads_beside(book, one.leads, other.leads), cube_folded(falls, wide * high, many))


def room_exchange(one, other):
    """The map that puts guests of other ahead of those of one, which are led by the things of the falls of these."""
    need_two_crosses(one, other)
    need_few_guests(one.size * other.size)
    # At j, s, i, t: j falls into s, paired with what leads i to t.
    led = summed(cube_flat(other.falls), cube_flat(one.leads), one.book.size, one.book.prime)
    led = moved(led, [other.size, other.size, one.size, one.size], [2, 0, 1, 3])
    return folded(led, one.size * other.size)


def double_room(cross):
    """The room of the double in which things lead guests, and rows tell of the things of their falls."""
    need_cross(cross)
    need_few_pairs(cross.book)
    many = cross.book.size
    size = cross.size
    # At k, v, w, i: thing k leads v to guests that fall into w paired with thing i.
    led = summed(cube_flat(cross.leads), cube_flat(cross.falls), size, cross.book.prime)
    led = moved(led, [many, size, size, many], [3, 0, 1, 2])
    return Room(double(cross.book), Known(cube_folded(led, size, size)))


def cross_of(book, room):
    """The CrossRoom of a book that a room of its double is."""
    need_book(book)
    need_room(room)
    need_few_pairs(book)
    whole = room.book
    if whole.prime != book.prime or (whole.joins, whole.one, whole.splits, whole.counts) != double_tables(book):
        raise BadShape("book")
    size = room.size
    led = cube_flat(room.leads)
    leads = summed(flat(from_things(book)), led, whole.size, book.prime)
    falls = summed(flat(from_rows(book)), led, whole.size, book.prime)
    falls = moved(falls, [book.size, size, size], [1, 2, 0])
    return known_cross(book, cube_folded(leads, size, size), cube_folded(falls, size, book.size))
