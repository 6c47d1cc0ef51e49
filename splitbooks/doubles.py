"""Doubles: the rows of a splitbook beside its things, and the crossing that each double has."""

from splitbooks.axes import cube_flat, cube_folded, moved, summed
from splitbooks.books import MOST_THINGS, Splitbook
from splitbooks.checks import need_book
from splitbooks.errors import TooMany
from splitbooks.linear import flat, inverse, led_all, plain
from splitbooks.tables import rows_paired


def need_few_pairs(book):
    """TooMany(16) if there are more pairs of a row and a thing than a splitbook may have things."""
    if book.size * book.size > MOST_THINGS:
        raise TooMany(MOST_THINGS)


def three_parts(book):
    """The numbers of each thing at the three parts that it splits into, its second half split once more."""
    splits = cube_flat(book.splits)
    return summed(splits, splits, book.size, book.prime)


def _joins_of_pairs(book):
    """The joins of the double; i, j, y are rows, k, l, m things, a, b, c the three parts of k."""
    prime = book.prime
    size = book.size
    joins = cube_flat(book.joins)
    cube = [size] * 3
    # At c, x, a, j: what row j tells of the back undone of c, joined to x, joined to a.
    ahead = summed(flat(inverse(book.back, prime)), joins, size, prime)
    told = summed(ahead, joins, size, prime)
    # At c, a, j, i, y: row i joined to the row that tells so of x, told of y.
    told = moved(told, [size] * 4, [0, 2, 3, 1])
    told = summed(told, moved(cube_flat(book.splits), cube, [2, 1, 0]), size, prime)
    # At k, b, j, i, y, once all a and c are summed up.
    parts = moved(three_parts(book), [size] * 4, [0, 2, 3, 1])
    told = summed(parts, told, size * size, prime)
    # At k, j, i, y, l, m: b is joined to l.
    told = summed(moved(told, [size] * 5, [0, 2, 3, 4, 1]), joins, size, prime)
    return cube_folded(moved(told, [size] * 6, [2, 0, 1, 4, 3, 5]), size * size, size * size)


def _splits_of_pairs(book):
    """The splits of the double: second halves of a row beside first ones of a thing, and the other ones."""
    size = book.size
    # At p, q, i, k, a, b: row i splits into rows p and q, thing k into things a and b.
    numbers = flat(rows_paired(book.prime, cube_flat(book.joins), cube_flat(book.splits)))
    return cube_folded(moved(numbers, [size] * 6, [2, 3, 1, 4, 0, 5]), size * size, size * size)


def double_tables(book):
    """Joins, one, splits and counts of the double."""
    one = flat(rows_paired(book.prime, book.counts, book.one))
    counts = flat(rows_paired(book.prime, book.one, book.counts))
    return _joins_of_pairs(book), one, _splits_of_pairs(book), counts


def double(book):
    """The splitbook of pairs of a row and a thing of book."""
    need_book(book)
    need_few_pairs(book)
    joins, one, splits, counts = double_tables(book)
    return Splitbook(book.prime, joins, one, splits, counts)


def from_things(book):
    """The map that leads each thing to its pair with the counts."""
    need_book(book)
    need_few_pairs(book)
    return tuple([flat(rows_paired(book.prime, book.counts, thing)) for thing in plain(book.size)])


def from_rows(book):
    """The map that leads each row to its pair with one."""
    need_book(book)
    need_few_pairs(book)
    return tuple([flat(rows_paired(book.prime, row, book.one)) for row in plain(book.size)])


def double_crossing(book):
    """The square of the double that pairs each thing, beside the counts, and its row, beside one."""
    things = from_things(book)
    rows = from_rows(book)
    return led_all(list(zip(*things)), rows, book.prime)
