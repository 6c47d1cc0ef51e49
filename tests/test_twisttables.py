"""Point 95: twists and product tables; all twists."""

import functools
import itertools
import unittest

from splitbooks.bases import other_way
from splitbooks.doingtables import (
    ProductTable, book_table, doing_fault, is_table_leading, plain_doing, table_fault, turning_doing, unmoved)
from splitbooks.errors import BadGroup, BadPrime, BadTwist, TooMany
from splitbooks.families import group_book, shift_book
from splitbooks.smash import smash
from splitbooks.twists import is_twist, twist_undone, twisted
from splitbooks.twisttables import function_twists, twist_likeness, twisted_table, twists
from splitbooks.wide import wide_rank
from tests import plainly, plaintwists, samples
from tests.helping import Case
from tests.test_doingtables import points_table, some_doings
from tests.twistsamples import functions_twist, plain_twist, some_twists, twisted_books


@functools.lru_cache(None)
def twisted_doings():
    """(book, table, doing, twist) by name."""
    found = {}
    for name, (book, square) in some_twists().items():
        if book.size > 6:
            continue
        table = book_table(book)
        found[name + ", turning"] = (book, table, turning_doing(book), square)
        if book.size <= 4:
            found[name + ", plain"] = (book, points_table(book.prime, 2), plain_doing(book, points_table(book.prime, 2)),
                                       square)
            rows = other_way(book)
            # A book does on the table of its rows: they tell of second halves.
            doing = [[[line[f] for line in part] for part in rows.splits] for f in range(book.size)]
            found[name + ", on rows"] = (book, book_table(rows), doing, square)
    for name, (book, table, doing) in some_doings().items():
        if book.size * table.size <= 16:
            found[name + ", plain twist"] = (book, table, doing, plain_twist(book))
    return found


def table_plainly(book, table, doing, square):
    """The joins of twisted_table."""
    prime = book.prime
    pairs = plaintwists.pairs(twist_undone(book, square))
    joins = []
    for a in range(table.size):
        rows = []
        for b in range(table.size):
            total = [0] * table.size
            for c, d, number in pairs:
                row = plainly.join(prime, table.joins, doing[c][a], doing[d][b])
                total = [so_far + number * more for so_far, more in zip(total, row)]
            rows.append(tuple(number % prime for number in total))
        joins.append(tuple(rows))
    return tuple(joins)


class TwistTablesTest(Case):

    def test_twisted_table(self):
        changed = 0
        for name, (book, table, doing, square) in twisted_doings().items():
            with self.subTest(name=name):
                found = self.unchanged(twisted_table, book, table, doing, square)
                self.assertIs(type(found), ProductTable)
                self.assertEqual((found.prime, found.size, found.one), (table.prime, table.size, table.one))
                self.assertEqual(found.joins, table_plainly(book, table, doing, square))
                self.assertIsNone(table_fault(found.prime, found.joins, found.one))
                changed += found != table
                other = twisted(book, square)
                self.assertIsNone(doing_fault(other, found, doing))
                self.assertEqual(unmoved(other, found, doing), unmoved(book, table, doing))
                self.assertEqual(wide_rank(other, found, doing), wide_rank(book, table, doing))
        self.assertGreater(changed, 20)

    def test_likeness(self):
        for name, (book, table, doing, square) in twisted_doings().items():
            prime, n, size = book.prime, book.size, table.size
            with self.subTest(name=name):
                if n * size > 36:
                    self.refused(TooMany, 36, twist_likeness, book, table, doing, square)
                    continue
                found = self.unchanged(twist_likeness, book, table, doing, square)
                self.numbers_within(prime, found, 2)
                pairs = plaintwists.pairs(twist_undone(book, square))
                for a, x in itertools.product(range(size), range(n)):
                    total = [0] * (size * n)
                    for c, d, number in pairs:
                        for m, one in enumerate(doing[c][a]):
                            for y, other in enumerate(book.joins[d][x]):
                                total[m * n + y] += number * one * other
                    self.assertEqual(found[a * n + x], tuple(number % prime for number in total))
                first = smash(twisted(book, square), twisted_table(book, table, doing, square), doing)
                self.assertIs(is_table_leading(first, smash(book, table, doing), found), True)
                self.assertEqual(plainly.rank(found, prime), size * n)

    def test_large_tables(self):
        book = other_way(group_book(5, samples.beside_groups(samples.cyclic(2), samples.FOUR)))
        square = some_twists()["signs of eight"][1]
        table = points_table(5, 36)
        found = twisted_table(book, table, plain_doing(book, table), square)
        self.assertEqual(found, table)
        # Sixteen things on their own table: rows by signs, read by a table of four and four.
        four = samples.beside_groups(samples.FOUR, samples.FOUR)
        book = other_way(group_book(3, four))
        square = functions_twist(3, four, lambda g, h: -1 if g // 8 and h % 2 else 1)
        self.assertIs(is_twist(book, square), True)
        group = group_book(3, four)
        doing = [[samples.unit(16, f) if f == x else (0,) * 16 for x in range(16)] for f in range(16)]
        found = twisted_table(book, book_table(group), doing, square)
        for g, h in itertools.product(range(16), repeat=2):
            sign = 2 if g // 8 and h % 2 else 1
            self.assertEqual(found.joins[g][h], tuple(sign * n for n in samples.unit(16, four[g][h])))
        self.refused(TooMany, 36, twist_likeness, book, book_table(group), doing, square)

    def test_twists(self):
        for name in ("two over 2", "two over 3", "two over 3, other basis", "three over 3", "brackets 2, power 0",
                     "brackets 2, power 1", "brackets 3, power 2", "slip 2", "slip 2, other way", "one thing",
                     "three over 3, other way, other basis"):
            book = samples.books()[name]
            with self.subTest(name=name):
                found = twists(book)
                self.assertEqual(found, sorted(set(found)))
                for square in found:
                    self.numbers_within(book.prime, square, 2)
                    self.assertTrue(plaintwists.is_twist(book, square))
                self.assertEqual(len(found), self.many_plainly(book))
                self.keeps_lists(twists, book)

    def many_plainly(self, book):
        """The number of twists among all squares of which both halves, counted, leave one."""
        n, prime = book.size, book.prime
        squares = []
        rows = [row for row in samples.all_rows(prime, n) if plainly.count(prime, book.counts, row) == 0]
        basis = plainly.tidy(rows, prime)
        pairs = [plainly.pair(prime, x, y) for x in basis for y in basis]
        one = plain_twist(book)
        for numbers in itertools.product(range(prime), repeat=len(pairs)):
            squares.append([[(one[j][k] + sum(number * pair[j][k] for number, pair in zip(numbers, pairs))) % prime
                             for k in range(n)] for j in range(n)])
        return sum(plaintwists.is_twist(book, square) for square in squares)

    def test_limits_of_twists(self):
        # 5 ** 4, 2 ** 9 and 97 are not above 700; 7 ** 4, 3 ** 9 and 2 ** 16 are.
        self.assertEqual(len(twists(group_book(5, samples.cyclic(3)))), 24)
        self.assertEqual(len(twists(other_way(group_book(5, samples.cyclic(3))))), 16)
        self.assertEqual(len(twists(group_book(97, samples.cyclic(2)))), 96)
        self.assertEqual(len(twists(group_book(97, [[0]]))), 1)
        self.assertIn(plain_twist(group_book(2, samples.cyclic(4))), twists(group_book(2, samples.cyclic(4))))
        for book in (group_book(7, samples.cyclic(3)), group_book(3, samples.cyclic(4)), group_book(2, samples.cyclic(5)),
                     shift_book(3, 2, 2), group_book(97, samples.cyclic(16))):
            self.refused(TooMany, 700, twists, book)

    def test_function_twists(self):
        for prime, table in ((2, samples.cyclic(2)), (3, samples.cyclic(2)), (3, samples.cyclic(3)), (5, samples.cyclic(2)),
                             (5, samples.cyclic(3)), (97, samples.cyclic(2)), (2, samples.cyclic(4)), (2, samples.FOUR)):
            found = function_twists(prime, table)
            self.assertIs(type(found), int)
            self.assertEqual(found, len(twists(other_way(group_book(prime, table)))))

    def test_function_twists_of_cyclic_groups(self):
        for prime in (2, 3, 5, 7, 13, 97):
            for n in range(1, 9):
                self.assertEqual(function_twists(prime, samples.cyclic(n)), (prime - 1) ** (n - 1))

    def test_function_twists_counted(self):
        """Signs of groups over 3: all squares of signs are tried."""
        for table in (samples.cyclic(4), samples.FOUR):
            n = len(table)
            many = 0
            for signs in itertools.product((0, 1), repeat=9):
                def told(g, h):
                    return signs[(g - 1) * 3 + h - 1] if g and h else 0
                many += all((told(g, h) + told(table[g][h], k) - told(h, k) - told(g, table[h][k])) % 2 == 0
                            for g in range(n) for h in range(n) for k in range(n))
            self.assertEqual(function_twists(3, table), many)

    def test_function_twists_facts(self):
        """A multiple of (prime - 1) ** (n - 1); the factor beyond it tells of pairs of things that go past one another."""
        # How many times signs alone come, beyond those that numbers of single things make.
        groups = {"four": (samples.FOUR, 1), "eights": (samples.beside_groups(samples.cyclic(2), samples.FOUR), 3),
                  "two and four": (samples.beside_groups(samples.cyclic(2), samples.cyclic(4)), 1),
                  "six": (samples.SIX, 0), "eight": (samples.EIGHT, 1), "quaternions": (samples.QUATERNIONS, 0)}
        for prime in (2, 3, 5, 7, 97):
            for name, (table, signs) in groups.items():
                with self.subTest(prime=prime, name=name):
                    wanted = (prime - 1) ** (len(table) - 1) * (2 ** signs if prime > 2 else 1)
                    self.assertEqual(function_twists(prime, table), wanted)
        self.assertEqual(function_twists(3, samples.FOUR), 16)

    def test_refused(self):
        for value in samples.STRANGE + [0, 1, 4, 9, 101, -3, "3", [3], (3,), 3.0, 2 ** 70]:
            self.refused(BadPrime, None, function_twists, value, None)
        for value in samples.STRANGE + samples.WRONG_GROUPS:
            self.refused(BadGroup, None, function_twists, 3, value)
        self.assertEqual(function_twists(3, tuple(tuple(row) for row in samples.cyclic(8))), 2 ** 7)
        self.refused(TooMany, 8, function_twists, 3, samples.cyclic(9))
        self.refused(TooMany, 8, function_twists, 2, samples.cyclic(16))
        self.wants_books(twists, 1)
        two, table = group_book(3, samples.cyclic(2)), points_table(3, 2)
        doing = plain_doing(two, table)
        for function in (twisted_table, twist_likeness):
            self.refuses_doings(function, plain_twist(two))
            for value in self.wrong_squares(2) + [[[1, 0], [0, 1]]]:
                self.refused(BadTwist, None, function, two, table, doing, value)
        wide = points_table(3, 19)
        self.refused(TooMany, 36, twist_likeness, two, wide, plain_doing(two, wide), plain_twist(two))
        self.refused(BadTwist, None, twist_likeness, two, wide, plain_doing(two, wide), None)
        wide = points_table(3, 18)
        self.assertEqual(len(twist_likeness(two, wide, plain_doing(two, wide), plain_twist(two))), 36)

    def test_spellings(self):
        book, square = some_twists()["two over 3: 1"]
        table = points_table(3, 2)
        doing = [[[1, 0], [0, 1]], [[0, 1], [1, 0]]]
        wanted = twisted_table(book, table, doing, square)
        more = twisted_table(book, table, [[[n + 3 for n in row] for row in part] for part in doing],
                             [[n - 3 for n in row] for row in square])
        self.assertEqual(more, wanted)
        # Twisted by signs, the things 1 and (1, -1) of the points: the latter joined to itself is -1.
        row = plainly.join(3, wanted.joins, (1, 2), (1, 2))
        self.assertEqual(row, (2, 2))
        self.assertEqual(twisted_books()["two over 3: 1"], book)


if __name__ == "__main__":
    unittest.main()
