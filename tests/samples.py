"""Splitbooks to try things on, and values that are of no use."""

import functools
import itertools
import random

from splitbooks.bases import beside, in_basis, joins_turned, other_way, splits_turned
from splitbooks.brackets import bracket_book
from splitbooks.families import group_book, shift_book, slip_book
from splitbooks.fewbooks import few_books
from splitbooks.twists import led_twist, twisted
from tests import plainly


class Odd:
    """A value that is equal to all and cannot be shown."""

    def __eq__(self, other):
        return True

    __hash__ = None

    def __repr__(self):
        raise RuntimeError("not to be shown")

    __str__ = __repr__


# Values of many kinds, none of which is a number, a row, a table or a Splitbook.
STRANGE = [None, True, False, "", "ab", b"ab", 1.5, {}, {0: 1}, set(), {1}, frozenset(), object(), Odd(), int, len,
           range(2), iter([1]), 1j, ..., [None], ["a"], [[]], [[[]]], ([],), [1.0], [True], (False, True)]


def cyclic(n):
    return [[(i + j) % n for j in range(n)] for i in range(n)]


def of_orders(orders):
    """The table of the group that some orders (permutations) make, the unit first."""
    size = len(orders[0])
    todo, found = [tuple(range(size))], [tuple(range(size))]
    while todo:
        one = todo.pop()
        for other in orders:
            new = tuple(one[other[k]] for k in range(size))
            if new not in found:
                found.append(new)
                todo.append(new)
    return [[found.index(tuple(p[q[k]] for k in range(size))) for q in found] for p in found]


def beside_groups(one, other):
    n = len(other)
    return [[one[i // n][j // n] * n + other[i % n][j % n] for j in range(len(one) * n)] for i in range(len(one) * n)]


# Values that are no tables of groups of 1 to 16 things with unit 0.
WRONG_GROUPS = [[], [[]], [[1]], [[0, 1], [1, 1]], [[0, 1], [0, 1]], [[1, 0], [0, 1]], [[0, 1], [1, 2]], [[0, 1], [1, -1]],
                [[0, 1]], [[0, 1], [1]], [[0, 1], [1, False]], [[0, True], [1, 0]], [[0, 1.0], [1, 0]], cyclic(17),
                [[0, 1, 2], [1, 2, 0], [2, 1, 0]], {0: [0]}, "0",
                [[0, 1, 2, 3, 4], [1, 0, 3, 4, 2], [2, 4, 0, 1, 3], [3, 2, 4, 0, 1], [4, 3, 1, 2, 0]]]
FOUR = beside_groups(cyclic(2), cyclic(2))
SIX = of_orders([(1, 0, 2), (0, 2, 1)])
EIGHT = of_orders([(1, 2, 3, 0), (3, 2, 1, 0)])
QUATERNIONS = of_orders([(1, 2, 3, 0, 5, 6, 7, 4), (4, 7, 6, 5, 2, 1, 0, 3)])
TWELVE = of_orders([(1, 2, 0, 3), (0, 2, 3, 1)])
TEN = of_orders([(1, 2, 3, 4, 0), (0, 4, 3, 2, 1)])
FOURTEEN = of_orders([(1, 2, 3, 4, 5, 6, 0), (0, 6, 5, 4, 3, 2, 1)])


# [x0, x1] is x1; for 2 and 3 the power of x0 is x0, that of x1 is 0.
def slanted(prime):
    return [[[0, 0], [0, 1]], [[0, prime - 1], [0, 0]]], [[1, 0], [0, 0]]


# [x0, x1] is x2, all else is 0; for 2 alone, as 2 * 2 * 2 things are few enough.
def level_three():
    brackets = [[[0, 0, 0] for _ in range(3)] for _ in range(3)]
    brackets[0][1] = [0, 0, 1]
    brackets[1][0] = [0, 0, -1]
    return brackets, [[0, 0, 1], [0, 0, 0], [0, 0, 1]]


def squares_of_two():
    """Brackets and powers of the squares of size 2 over 2."""
    things = [((1, 0), (0, 0)), ((0, 1), (0, 0)), ((0, 0), (1, 0)), ((0, 0), (0, 1))]

    def put(x, y):
        return [sum(x[i][k] * y[k][j] for k in range(2)) for i in range(2) for j in range(2)]

    brackets = [[[a - b for a, b in zip(put(x, y), put(y, x))] for y in things] for x in things]
    return brackets, [put(x, x) for x in things]


def some_basis(size, prime, seed=1):
    """Rows of a basis; the numbers are also below 0 and beyond the prime."""
    chance = random.Random(seed * 1000 + size * 100 + prime)
    while True:
        rows = [[chance.randrange(prime) for _ in range(size)] for _ in range(size)]
        if plainly.rank(rows, prime) == size:
            return [[number + prime * chance.randrange(-2, 3) for number in row] for row in rows]


def some_things(book, many, seed=1):
    chance = random.Random(seed)
    return [tuple(chance.randrange(book.prime) for _ in range(book.size)) for _ in range(many)]


def all_rows(prime, size):
    return itertools.product(range(prime), repeat=size)


def unit(size, place):
    return tuple(1 if k == place else 0 for k in range(size))


def plain(size):
    return tuple(unit(size, k) for k in range(size))


def tables(book):
    """The five values that a Splitbook is made of, as lists."""
    joins = [[list(row) for row in square] for square in book.joins]
    splits = [[list(row) for row in square] for square in book.splits]
    return book.prime, joins, list(book.one), splits, list(book.counts)


@functools.lru_cache(None)
def families():
    """Members of each family, by a name."""
    books = {
        "one thing": group_book(5, [[0]]),
        "two over 2": group_book(2, cyclic(2)),
        "two over 3": group_book(3, cyclic(2)),
        "three over 3": group_book(3, cyclic(3)),
        "three over 7": group_book(7, cyclic(3)),
        "four over 5": group_book(5, cyclic(4)),
        "two and two over 3": group_book(3, FOUR),
        "six over 2": group_book(2, SIX),
        "six over 5": group_book(5, SIX),
        "shift 2 over 3": shift_book(3, 2, 2),
        "shift 2 over 5": shift_book(5, 2, 4),
        "shift 3 over 7": shift_book(7, 3, 2),
        "slip 2": slip_book(2),
        "slip 3": slip_book(3),
        "brackets 2, power 0": bracket_book(2, [[[0]]], [[0]]),
        "brackets 2, power 1": bracket_book(2, [[[0]]], [[1]]),
        "brackets 3, power 0": bracket_book(3, [[[0]]], [[0]]),
        "brackets 3, power 2": bracket_book(3, [[[0]]], [[2]]),
        "brackets 5": bracket_book(5, [[[0]]], [[3]]),
        "slanted 2": bracket_book(2, *slanted(2)),
        "slanted 3": bracket_book(3, *slanted(3)),
        "level": bracket_book(2, *level_three()),
    }
    return books


@functools.lru_cache(None)
def books():
    """The families, and what is made of them: in other bases, read the other way, turned, side by side."""
    found = dict(families())
    for name, book in families().items():
        rows = some_basis(book.size, book.prime)
        found[name + ", other basis"] = in_basis(book, rows)
        found[name + ", other way"] = other_way(book)
        if book.size <= 6:
            found[name + ", other way, other basis"] = in_basis(other_way(book), rows)
            found[name + ", joins turned"] = joins_turned(book)
            found[name + ", splits turned"] = splits_turned(book)
    two, shift = group_book(3, cyclic(2)), shift_book(3, 2, 2)
    found["two beside shift"] = beside(two, shift)
    found["shift beside two, other basis"] = in_basis(beside(shift, two), some_basis(8, 3))
    found["slip beside its other way's two"] = beside(slip_book(2), other_way(group_book(2, cyclic(2))))
    return found


@functools.lru_cache(None)
def large_books():
    """Books of many things."""
    return {
        "sixteen over 97": group_book(97, cyclic(16)),
        "sixteen over 2, other way": other_way(group_book(2, beside_groups(FOUR, FOUR))),
        "twelve over 2": group_book(2, TWELVE),
        "ten over 2": group_book(2, TEN),
        "fourteen over 97, other basis": in_basis(group_book(97, FOURTEEN), some_basis(14, 97)),
        "eight over 2": group_book(2, EIGHT),
        "quaternions over 3": group_book(3, QUATERNIONS),
        "shift 4 over 5": shift_book(5, 4, 2),
        "squares of two": bracket_book(2, *squares_of_two()),
        "brackets 13": bracket_book(13, [[[0]]], [[1]]),
        "slips": beside(slip_book(2), slip_book(2)),
    }


def twisted_by(book, thing):
    """The book twisted by what a thing, that can be undone, makes of the pair of one and one."""
    return twisted(book, led_twist(book, plainly.pair(book.prime, book.one, book.one), thing))


@functools.lru_cache(None)
def more_books():
    """All of books(), some over large primes, and some with several kinds, walls or fading steps."""
    found = dict(books())
    more = {
        "one thing over 97": group_book(97, [[0]]),
        "three over 2": group_book(2, cyclic(3)),
        "four over 2": group_book(2, cyclic(4)),
        "five over 2": group_book(2, cyclic(5)),
        "five over 97": group_book(97, cyclic(5)),
        "six turns over 7": group_book(7, cyclic(6)),
        "seven over 2": group_book(2, cyclic(7)),
        "six over 97": group_book(97, SIX),
        "six over 3": group_book(3, SIX),
        "shift 2 over 97": shift_book(97, 2, 96),
        "brackets 7": bracket_book(7, [[[0]]], [[1]]),
        "three beyond 7": few_books(7, 3)[1],
        "four beyond 5": few_books(5, 4)[4],
        "four turns beyond 3": few_books(3, 4)[2],
        "shift 2 over 3, twisted": twisted_by(shift_book(3, 2, 2), (1, 1, 0, 0)),
        "slip 2, other way, twisted": twisted_by(other_way(slip_book(2)), (1, 1, 1, 0)),
    }
    for name, book in more.items():
        found[name] = book
        found[name + ", other basis"] = in_basis(book, some_basis(book.size, book.prime, 5))
    three = group_book(2, cyclic(3))
    found["three beside slip"] = beside(three, slip_book(2))
    found["threes over 2, other basis"] = in_basis(beside(three, three), some_basis(9, 2))
    return found


def small_books(most):
    """Those of more_books() that have at most so many things, counted as rows of numbers."""
    return {name: book for name, book in more_books().items() if book.prime ** book.size <= most}
