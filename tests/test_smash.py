"""Point 92: smash tables."""

import itertools
import unittest

from splitbooks.bases import other_way
from splitbooks.doingtables import (
    ProductTable, book_table, doing_fault, done, is_table_leading, plain_doing, turning_doing, unmoved)
from splitbooks.errors import BadBook, BadDoing, BadShape, BadTable, TooMany
from splitbooks.families import group_book
from splitbooks.smash import book_in_smash, smash, smash_doing, table_in_smash, twice_smashed
from tests import plainly, plainrooms, samples
from tests.helping import Case
from tests.test_doingtables import points_table, some_doings

FUNCTIONS = (smash, table_in_smash, book_in_smash, smash_doing, twice_smashed)


def fitting(most=36):
    """Those of some_doings whose smash table has at most so many things."""
    return {name: each for name, each in some_doings().items() if each[0].size * each[1].size <= most}


def smash_plainly(book, table, doing, first, second):
    """(a, x) joined to (b, y), for things of the table and of the book by their numbers."""
    prime, n = book.prime, book.size
    (a, x), (b, y) = first, second
    total = [0] * (table.size * n)
    for p, q, number in plainrooms.pairs(book.splits[x]):
        led = plainly.join(prime, table.joins, samples.unit(table.size, a), doing[p][b])
        for c, one in enumerate(led):
            for z, other in enumerate(book.joins[q][y]):
                total[c * n + z] += number * one * other
    return tuple(number % prime for number in total)


def beside(prime, a, x):
    return tuple(n * m % prime for n in a for m in x)


class SmashTest(Case):

    def test_smash(self):
        seen = 0
        for name, (book, table, doing) in fitting(24).items():
            found = self.unchanged(smash, book, table, doing)
            n, m = book.size, table.size
            seen += 1
            with self.subTest(name=name):
                self.assertIs(type(found), ProductTable)
                self.assertEqual((found.prime, found.size), (book.prime, n * m))
                self.assertEqual(found.one, beside(book.prime, table.one, book.one))
                places = list(itertools.product(range(m), range(n)))
                for i, first in enumerate(places):
                    for j, second in enumerate(places):
                        self.assertEqual(found.joins[i][j], smash_plainly(book, table, doing, first, second))
        self.assertGreater(seen, 40)

    def test_larger_smash(self):
        for name, (book, table, doing) in fitting().items():
            if book.size * table.size <= 24:
                continue
            found = smash(book, table, doing)
            places = list(itertools.product(range(table.size), range(book.size)))
            for i in range(0, len(places), 5):
                for j in range(0, len(places), 7):
                    self.assertEqual(found.joins[i][j], smash_plainly(book, table, doing, places[i], places[j]))

    def test_what_is_in_it(self):
        for name, (book, table, doing) in fitting(20).items():
            prime, n, m = book.prime, book.size, table.size
            whole = smash(book, table, doing)
            with self.subTest(name=name):
                things, rows = table_in_smash(book, table, doing), book_in_smash(book, table, doing)
                self.assertEqual(things, tuple(beside(prime, a, book.one) for a in samples.plain(m)))
                self.assertEqual(rows, tuple(beside(prime, table.one, x) for x in samples.plain(n)))
                self.assertIs(is_table_leading(table, whole, things), True)
                self.assertIs(is_table_leading(book_table(book), whole, rows), True)
                for a, x in itertools.product(range(m), range(n)):
                    pair = plainly.join(prime, whole.joins, things[a], rows[x])
                    self.assertEqual(pair, samples.unit(n * m, a * n + x))
                if n * m > 9:
                    continue
                for a, x in itertools.product(range(m), range(n)):
                    led = plainly.lead(prime, things, doing[x][a])
                    total = [0] * (n * m)
                    for p, q, number in plainrooms.pairs(book.splits[x]):
                        row = plainly.join(prime, whole.joins, rows[p], things[a])
                        row = plainly.join(prime, whole.joins, row, plainly.lead(prime, rows, book.back[q]))
                        total = [so_far + number * more for so_far, more in zip(total, row)]
                    self.assertEqual(led, tuple(number % prime for number in total))

    def test_smash_doing(self):
        for name, (book, table, doing) in fitting(27).items():
            prime, n, m = book.prime, book.size, table.size
            whole, other = smash(book, table, doing), other_way(book)
            with self.subTest(name=name):
                found = self.unchanged(smash_doing, book, table, doing)
                self.numbers_within(prime, found, 3)
                for f, a, x in itertools.product(range(n), range(m), range(n)):
                    wanted = [0] * (n * m)
                    for z in range(n):
                        wanted[a * n + z] = book.splits[x][z][f]
                    self.assertEqual(found[f][a * n + x], tuple(wanted))
                self.assertIsNone(doing_fault(other, whole, found))
                things = table_in_smash(book, table, doing)
                self.assertEqual(unmoved(other, whole, found), plainly.tidy(things, prime))
                f, thing = samples.some_things(book, 1, 3)[0], samples.some_basis(n * m, prime)[0]
                wanted = plainrooms.led(prime, found, f, [k % prime for k in thing])
                self.assertEqual(done(other, whole, found, f, thing), wanted)

    def test_twice(self):
        seen = 0
        for name, (book, table, doing) in fitting().items():
            if table.size * book.size ** 2 > 36:
                self.refused(TooMany, 36, twice_smashed, book, table, doing)
                continue
            seen += 1
            with self.subTest(name=name):
                found = self.unchanged(twice_smashed, book, table, doing)
                wanted = smash(other_way(book), smash(book, table, doing), smash_doing(book, table, doing))
                self.assertEqual(found, wanted)
                self.assertEqual(found.size, table.size * book.size ** 2)
        self.assertGreater(seen, 20)

    def test_plain_smash(self):
        """By the plain doing things of both are joined side by side."""
        for name in ("shift 2 over 3", "slip 2, other way", "six over 2"):
            book = samples.books()[name]
            table = points_table(book.prime, 2)
            whole = smash(book, table, plain_doing(book, table))
            for a, x, b, y in itertools.product(range(2), range(book.size), range(2), range(book.size)):
                wanted = beside(book.prime, table.joins[a][b], book.joins[x][y])
                self.assertEqual(whole.joins[a * book.size + x][b * book.size + y], wanted)

    def test_limits(self):
        book, table = group_book(3, samples.cyclic(6)), points_table(3, 6)
        doing = plain_doing(book, table)
        for function in FUNCTIONS[:4]:
            self.assertIsNotNone(function(book, table, doing))
        self.assertEqual(smash(book, table, doing).size, 36)
        wide = points_table(3, 7)
        for function in FUNCTIONS:
            self.refused(TooMany, 36, function, book, wide, plain_doing(book, wide))
        self.refused(TooMany, 36, twice_smashed, book, points_table(3, 2), plain_doing(book, points_table(3, 2)))
        for size, most in ((6, 1), (5, 1), (4, 2), (3, 4), (2, 9), (1, 36)):
            book = group_book(2, samples.cyclic(size))
            table = points_table(2, most)
            self.assertEqual(twice_smashed(book, table, plain_doing(book, table)).size, size * size * most)
            if most < 36:
                table = points_table(2, most + 1)
                self.refused(TooMany, 36, twice_smashed, book, table, plain_doing(book, table))
        wide = group_book(2, samples.cyclic(7))
        self.refused(TooMany, 36, twice_smashed, wide, points_table(2, 1), plain_doing(wide, points_table(2, 1)))
        self.assertEqual(smash(wide, points_table(2, 5), plain_doing(wide, points_table(2, 5))).size, 35)

    def test_refused(self):
        book, table = group_book(3, samples.cyclic(2)), points_table(3, 37 // 2)
        for function in FUNCTIONS:
            for value in samples.STRANGE + [table]:
                self.refused(BadBook, None, function, value, None, None)
                if type(value) is not ProductTable:
                    self.refused(BadTable, None, function, book, value, None)
            self.refused(BadShape, "prime", function, book, points_table(5, 2), None)
            self.refused(BadDoing, ("shape",), function, book, points_table(3, 2), None)
            doing = [[[0, 1], [1, 0]], [[0, 1], [1, 0]]]
            self.refused(BadDoing, ("one", 0), function, book, points_table(3, 2), doing)
            doing = [[[1, 0], [0, 1]], [[2, 0], [0, 2]]]
            self.refused(BadDoing, ("counts", 1), function, book, points_table(3, 2), doing)
            doing = [[[1, 0], [0, 1]], [[0, 2], [2, 0]]]
            self.refused(BadDoing, ("counts", 1), function, book, points_table(3, 2), doing)
            # What is no doing is told ahead of what is too many.
            wide = points_table(3, 19)
            doing = plain_doing(book, wide)
            self.refused(TooMany, 36, function, book, wide, doing)
            self.refused(BadDoing, ("counts", 1), function, book, wide, [doing[0], [[2 * n for n in row] for row in doing[1]]])

    def test_by_hand(self):
        """Two that exchange two points: their smash table is one of squares of size 2."""
        book, table = group_book(3, samples.cyclic(2)), points_table(3, 2)
        doing = [[[1, 0], [0, 1]], [[0, 1], [1, 0]]]
        whole = smash(book, table, doing)
        # Thing a * 2 + x; (0, g) joined to (1, 1) is point 0 joined to point 0, beside g.
        self.assertEqual(whole.joins[1][2], (0, 1, 0, 0))
        self.assertEqual(whole.joins[1][0], (0, 0, 0, 0))
        self.assertEqual(whole.joins[1][3], (1, 0, 0, 0))
        self.assertEqual(whole.one, (1, 0, 1, 0))
        self.assertEqual(turning_doing(book), (((1, 0), (0, 1)), ((1, 0), (0, 1))))


if __name__ == "__main__":
    unittest.main()
