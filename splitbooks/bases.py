"""Splitbooks made of others: in other bases, read the other way, turned about, side by side."""

from splitbooks.books import MOST_THINGS, Splitbook
from splitbooks.checks import basis_of, need_book, need_two_books, thing_of
from splitbooks.errors import TooMany
from splitbooks.linear import across, combined, cube_led, flat
from splitbooks.tables import row_counted, rows_paired


def in_basis(book, rows):
    """The splitbook whose thing k stands for rows[k]."""
    need_book(book)
    prime = book.prime
    rows, undone = basis_of(book, rows)
    joins = cube_led(book.joins, rows, rows, undone, prime)
    splits = cube_led(book.splits, rows, across(undone), undone, prime)
    counts = [row_counted(prime, book.counts, row) for row in rows]
    return Splitbook(prime, joins, combined(book.one, undone, prime), splits, counts)


def coordinates(book, rows, thing):
    """The row of numbers for which thing is the sum of these times the rows."""
    need_book(book)
    _, undone = basis_of(book, rows)
    return combined(thing_of(book, thing), undone, book.prime)


def other_way(book):
    """The splitbook of the rows that tell a number of each thing."""
    need_book(book)
    places = range(book.size)
    joins = [[[book.splits[k][i][j] for k in places] for j in places] for i in places]
    splits = [[[book.joins[j][k][i] for k in places] for j in places] for i in places]
    return Splitbook(book.prime, joins, book.counts, splits, book.one)


def joins_turned(book):
    """The splitbook in which things are joined in the other sequence."""
    need_book(book)
    return Splitbook(book.prime, across(book.joins), book.one, book.splits, book.counts)


def splits_turned(book):
    """The splitbook with the halves of each split exchanged."""
    need_book(book)
    splits = [across(square) for square in book.splits]
    return Splitbook(book.prime, book.joins, book.one, splits, book.counts)


def _squares_beside(one, other):
    """The square, of rows of both sizes multiplied, of the pairs of the halves of two squares."""
    return [[number * more for number in row for more in line] for row in one for line in other]


def beside(one, other):
    """The splitbook of things of one beside things of other, all done side by side."""
    need_two_books(one, other)
    if one.size * other.size > MOST_THINGS:
        raise TooMany(MOST_THINGS)
    prime = one.prime
    joins = [[flat(rows_paired(prime, row, line)) for row in square for line in table]
             for square in one.joins for table in other.joins]
    splits = [_squares_beside(square, table) for square in one.splits for table in other.splits]
    ones = flat(rows_paired(prime, one.one, other.one))
    counts = flat(rows_paired(prime, one.counts, other.counts))
    return Splitbook(prime, joins, ones, splits, counts)
