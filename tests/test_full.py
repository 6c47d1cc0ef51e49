"""Point 92 behind its HEART: what is smashed twice is the full table."""

import itertools
import unittest

from splitbooks.bases import other_way
from splitbooks.doings import back_undone
from splitbooks.doingtables import full_table, is_table_leading, plain_doing
from splitbooks.errors import TooMany
from splitbooks.families import group_book, shift_book, slip_book
from splitbooks.full import unfolding
from splitbooks.smash import twice_smashed
from tests import plainly, plainrooms, samples
from tests.helping import Case
from tests.test_doingtables import points_table, some_doings


def fitting():
    """Those of some_doings that may be smashed twice, and plain doings on tables of one thing."""
    found = {name: each for name, each in some_doings().items() if each[0].size ** 2 * each[1].size <= 36}
    for name in ("shift 2 over 3", "slip 2, other way, other basis", "six over 5", "six over 2, other way",
                 "shift 2 over 97, other basis", "five over 97", "slanted 2, other way"):
        book = samples.more_books()[name]
        found[name + " on one thing"] = (book, points_table(book.prime, 1), plain_doing(book, points_table(book.prime, 1)))
    return found


def square_plainly(book, table, doing, undone, a, x, f):
    """The full table's thing to which (thing a beside thing x) beside row f is led."""
    prime, n, size = book.prime, book.size, table.size
    found = [0] * (size * n * n)
    for j in range(n):
        left = [book.splits[j][k][f] for k in range(n)]
        y = plainly.join(prime, book.joins, samples.unit(n, x), left)
        for p, i, number in plainrooms.pairs(plainly.split(prime, book.splits, y)):
            led = plainrooms.led(prime, doing, undone[p], samples.unit(size, a))
            for c, more in enumerate(led):
                found[(c * n + i) * n + j] += number * more
    return tuple(number % prime for number in found)


class FullTest(Case):

    def test_unfolding(self):
        self.assertGreater(len(fitting()), 30)
        for name, (book, table, doing) in fitting().items():
            n, size = book.size, table.size
            undone = back_undone(book)
            with self.subTest(name=name):
                found = self.unchanged(unfolding, book, table, doing)
                self.numbers_within(book.prime, found, 2)
                for a, x, f in itertools.product(range(size), range(n), range(n)):
                    self.assertEqual(found[(a * n + x) * n + f], square_plainly(book, table, doing, undone, a, x, f))

    def test_heart(self):
        """A table leading that a map undoes, whatever the doing."""
        for name, (book, table, doing) in fitting().items():
            with self.subTest(name=name):
                found = unfolding(book, table, doing)
                whole, full = twice_smashed(book, table, doing), full_table(table, book.size)
                self.assertEqual((len(found), len(found[0])), (whole.size, full.size))
                self.assertIs(is_table_leading(whole, full, found), True)
                self.assertEqual(plainly.rank(found, book.prime), whole.size)

    def test_things_and_rows_make_squares(self):
        """Of the product table of one thing: things lead by joining, rows by what they tell of second halves."""
        for book in (shift_book(3, 2, 2), slip_book(2), group_book(97, samples.SIX), other_way(group_book(2, samples.SIX))):
            prime, n = book.prime, book.size
            table = points_table(prime, 1)
            found = unfolding(book, table, plain_doing(book, table))
            for x, f in itertools.product(range(n), repeat=2):
                square = found[x * n + f]
                for j in range(n):
                    left = [book.splits[j][k][f] for k in range(n)]
                    wanted = plainly.join(prime, book.joins, samples.unit(n, x), left)
                    self.assertEqual(tuple(square[i * n + j] for i in range(n)), wanted)

    def test_spellings(self):
        book, table = group_book(3, samples.cyclic(2)), points_table(3, 2)
        doing = [[[1, 0], [0, 1]], [[0, 1], [1, 0]]]
        wanted = unfolding(book, table, doing)
        self.assertEqual(unfolding(book, table, [[[n - 3 for n in row] for row in square] for square in doing]), wanted)
        self.assertEqual(unfolding(book, table, tuple(tuple(tuple(row) for row in square) for square in doing)), wanted)
        # Thing 0 beside g, beside the row that tells of one: at row i, place j only j = 0, and g at i = 1; undone g leads.
        self.assertEqual(wanted[2], (0, 0, 0, 0, 0, 0, 1, 0))

    def test_refused(self):
        self.refuses_doings(unfolding)
        for size, most in ((6, 1), (5, 1), (4, 2), (3, 4), (2, 9), (1, 36)):
            book = group_book(2, samples.cyclic(size))
            table = points_table(2, most)
            self.assertEqual(len(unfolding(book, table, plain_doing(book, table))), size * size * most)
            if most < 36:
                table = points_table(2, most + 1)
                self.refused(TooMany, 36, unfolding, book, table, plain_doing(book, table))
        book = group_book(2, samples.cyclic(7))
        self.refused(TooMany, 36, unfolding, book, points_table(2, 1), plain_doing(book, points_table(2, 1)))


if __name__ == "__main__":
    unittest.main()
