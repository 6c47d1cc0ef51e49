"""Rooms whose guests fall, too, half by half with what things lead them to: they are free over what they keep."""

from splitbooks.axes import cube_flat, cube_folded, moved, summed
from splitbooks.besides import leads_beside, need_few_guests
from splitbooks.bothfaults import right_both
from splitbooks.checks import need_book
from splitbooks.errors import BadNumber, BadRoom, BadRow
from splitbooks.falls import right_falls
from splitbooks.known import Known
from splitbooks.linear import combined, flat, folded, inverse, led_all
from splitbooks.rooms import need_room
from splitbooks.stairs import kernel
from splitbooks.values import cube_of, is_number, is_row, row_of


class BothRoom:
    """A room of guests that fall, what things lead them to falling half by half."""

    def __init__(self, book, leads, falls):
        leads, falls = right_both(book, leads, falls, False)
        self.book = book
        self.size = len(falls)
        self.leads = leads
        self.falls = falls

    def __eq__(self, other):
        return (isinstance(other, BothRoom) and self.book == other.book and self.leads == other.leads
                and self.falls == other.falls)


def need_both(both):
    """BadRoom(None) unless a BothRoom is given."""
    if not isinstance(both, BothRoom):
        raise BadRoom(None)


def kept_guests(both):
    """The tidy list of the guests that fall into themselves paired with one."""
    need_both(both)
    prime = both.book.prime
    rows = []
    for i, table in enumerate(both.falls):
        row = list(flat(table))
        start = i * both.book.size
        for k, number in enumerate(both.book.one):
            row[start + k] = (row[start + k] - number) % prime
        rows.append(row)
    return kernel(rows, prime)


def told_by_kept(both, guest):
    """For each thing, the numbers of kept guests with which what it leads these to makes the guest."""
    need_both(both)
    if not is_row(guest, both.size):
        raise BadRow("a guest of the room is wanted")
    prime = both.book.prime
    kept = kept_guests(both)
    # There are just as many of these as guests, and each guest is made of them in just one way.
    rows = flat([led_all(kept, square, prime) for square in both.leads])
    return folded(combined(row_of(guest, prime), inverse(rows, prime), prime), len(kept))


def known_both(book, leads, falls):
    """The BothRoom of leads and falls that are known to be right."""
    return BothRoom(book, Known(cube_of(leads, book.prime)), Known(cube_of(falls, book.prime)))


def leads_in_lots(book, many):
    """The leads of so many lots of things: thing k of a lot stands at k * many and the number of the lot."""
    lots = range(many)
    return [[flat([[number if at == lot else 0 for at in lots] for number in row]) for row in square for lot in lots]
            for square in book.joins]


def free_both(book, many):
    """The room of so many lots of the things of a book, each led and falling in its own lot."""
    need_book(book)
    if not is_number(many) or many < 1:
        raise BadNumber("many")
    need_few_guests(book.size * many)
    nothing = (0,) * book.size
    lots = range(many)
    falls = [[row if at == lot else nothing for row in square for at in lots] for square in book.splits for lot in lots]
    return known_both(book, leads_in_lots(book, many), falls)


def room_both(room):
    """The room of guests beside things, which fall as the things split."""
    need_room(room)
    book = room.book
    need_few_guests(room.size * book.size)
    nothing = ((0,) * book.size,) * book.size
    falls = [flat([square if v == w else nothing for w in range(room.size)])
             for v in range(room.size) for square in book.splits]
    return known_both(book, leads_beside(book, room.leads, book.joins), falls)


def falls_both(book, falls):
    """The room of things beside guests that fall: things are led, and both fall."""
    falls = right_falls(book, falls)
    need_few_guests(book.size * len(falls))
    prime = book.prime
    many = book.size
    size = len(falls)
    # At y, a, k, t: the second half that stands beside a, joined to k.
    halves = summed(cube_flat(book.splits), cube_flat(book.joins), many, prime)
    halves = moved(halves, [many] * 4, [2, 0, 1, 3])
    # At i, j, y, a, t, and then at y, i, a, j, t.
    fallen = summed(cube_flat(falls), halves, many, prime)
    fallen = moved(fallen, [size, size, many, many, many], [2, 0, 3, 1, 4])
    return known_both(book, leads_in_lots(book, size), cube_folded(fallen, many * size, many))


def rows_both(book):
    """The room of the rows that tell of things, led by the back undone, falling as things are joined."""
    need_book(book)
    prime = book.prime
    many = book.size
    undone = inverse(book.back, prime)
    # At x, y, i: what row i tells of the back undone of x joined to y.
    told = summed(flat(undone), cube_flat(book.joins), many, prime)
    leads = cube_folded(moved(told, [many] * 3, [0, 2, 1]), many, many)
    falls = cube_folded(moved(cube_flat(book.splits), [many] * 3, [2, 0, 1]), many, many)
    return known_both(book, leads, falls)
