"""Crossings: squares by which the halves of all splits are exchanged."""

from splitbooks.axes import cube_flat, moved, summed
from splitbooks.bases import other_way, splits_turned
from splitbooks.checks import need_book, need_few
from splitbooks.errors import BadCrossing
from splitbooks.leadings import MOST_MAPS, leadings_between
from splitbooks.linear import across, combined, flat, led_all
from splitbooks.makers import makers_of
from splitbooks.tables import all_joined
from splitbooks.values import is_square, rows_of


def _splits_well(book, square):
    """Whether splits of its first halves, and of its second ones, are the square and itself put together."""
    size = book.size
    prime = book.prime
    numbers = flat(square)
    splits = cube_flat(book.splits)
    # At p, q, n: the first halves split into p and q, beside the second half n.
    firsts = summed(moved(splits, [size] * 3, [1, 2, 0]), numbers, size, prime)
    if firsts != cube_flat(all_joined(prime, book.joins, square, square)):
        return False
    columns = across(square)
    # At q, p, n, what stands beside the second half q joined to what stands beside p.
    joined = cube_flat(all_joined(prime, book.joins, columns, columns))
    return summed(numbers, splits, size, prime) == moved(joined, [size] * 3, [2, 1, 0])


def _exchanges(book, square):
    """Whether the square joined to each split is the split with its halves exchanged, joined to the square."""
    size = book.size
    prime = book.prime
    cube = [size] * 3
    joins = cube_flat(book.joins)
    numbers = flat(square)
    # What joins makes of two things that are exchanged is exchanged: so the makers are enough.
    makers = makers_of(prime, book.joins)
    shape = [len(makers), size, size, size]
    # At x, d, c: the number at the halves c, d of the split of maker x.
    halves = moved(cube_flat([book.splits[x] for x in makers]), shape[:3], [0, 2, 1])
    # At x, d, a, p: a joined to c. At a, d, m: b joined to d, for the pairs a, b of the square.
    first = summed(halves, moved(joins, cube, [1, 0, 2]), size, prime)
    last = summed(numbers, joins, size, prime)
    ahead = summed(moved(first, shape, [0, 3, 2, 1]), last, size * size, prime)
    # At x, d, b, m: c joined to b. At d, p, b: d joined to a.
    first = summed(halves, joins, size, prime)
    last = summed(moved(joins, cube, [0, 2, 1]), numbers, size, prime)
    behind = summed(moved(first, shape, [0, 3, 1, 2]), moved(last, cube, [0, 2, 1]), size * size, prime)
    return ahead == moved(behind, shape[:3], [0, 2, 1])


def is_crossing(book, thing):
    """Whether thing, any value, is a crossing of book."""
    need_book(book)
    if not is_square(thing, book.size):
        return False
    square = rows_of(thing, book.prime)
    # If splits are right, it can be undone just if its first halves, counted, leave one.
    if combined(book.counts, square, book.prime) != book.one:
        return False
    return _splits_well(book, square) and _exchanges(book, square)


def crossing_of(book, value):
    """The crossing of book that value is; BadCrossing if it is none."""
    if not is_crossing(book, value):
        raise BadCrossing("a crossing of the splitbook is wanted")
    return rows_of(value, book.prime)


def crossing_undone(book, square):
    """The square that, joined to the crossing half by half, is the pair of one and one."""
    need_book(book)
    square = crossing_of(book, square)
    return led_all(across(book.back), square, book.prime)


def crossings(book):
    """The ascending list of all crossings."""
    need_book(book)
    need_few(book.prime, (book.size - 1) ** 2, MOST_MAPS)
    # As a map, a crossing leads rows to things, joins to joins, and splits to splits with halves exchanged.
    rows = splits_turned(other_way(book))
    return [square for square in leadings_between(rows, book) if _exchanges(book, square)]
