"""Points 44 and 45: things that are swallowed, what rows tell, and the row that shifts."""

import itertools
import unittest

from splitbooks.bases import beside, joins_turned, other_way, splits_turned
from splitbooks.brackets import bracket_book
from splitbooks.doings import backed
from splitbooks.errors import BadRow
from splitbooks.families import group_book, shift_book, slip_book
from splitbooks.selfsplit import is_selfsplit
from splitbooks.swallowed import (
    firsts_told, is_swallowed_left, is_swallowed_right, row_tells, seconds_told, shift_row, sides_alike, swallowed_left,
    swallowed_right)
from tests import plainly, samples
from tests.helping import Case


def put(book, x, y):
    return plainly.join(book.prime, book.joins, x, y)


def times(prime, number, x):
    return tuple(number * a % prime for a in x)


def tell(book, f, x):
    return sum(a * b for a, b in zip(f, x)) % book.prime


def swallowed(book, x, left):
    for thing, count in zip(samples.plain(book.size), book.counts):
        if (put(book, thing, x) if left else put(book, x, thing)) != times(book.prime, count, x):
            return False
    return True


def multiple(prime, x, y):
    """The number, not 0, by which y is a multiple of x; None if there is none."""
    return next((k for k in range(1, prime) if times(prime, k, x) == tuple(y)), None)


class SwallowedTest(Case):

    def test_all_things_of_small_books(self):
        for name, book in samples.small_books(300).items():
            with self.subTest(name=name):
                rows = list(samples.all_rows(book.prime, book.size))
                for function, judge, left in ((swallowed_left, is_swallowed_left, True),
                                              (swallowed_right, is_swallowed_right, False)):
                    found = [x for x in rows if swallowed(book, x, left)]
                    first = next(x for x in found if any(x) and next(a for a in x if a) == 1)
                    self.assertEqual(function(book), first)
                    self.assertEqual(len(found), book.prime)
                    for x in rows:
                        self.assertIs(judge(book, x), x in found)

    def test_all_books(self):
        for name, book in {**samples.more_books(), **samples.large_books()}.items():
            prime = book.prime
            with self.subTest(name=name):
                left, right = swallowed_left(book), swallowed_right(book)
                for x, side, judge in ((left, True, is_swallowed_left), (right, False, is_swallowed_right)):
                    self.numbers_within(prime, x, 1)
                    self.assertEqual(next(a for a in x if a), 1)
                    self.assertTrue(swallowed(book, x, side))
                    self.assertIs(judge(book, x), True)
                    self.assertIs(judge(book, [0] * book.size), True)
                    self.assertIs(judge(book, book.one), book.size == 1)
                    for spelled in self.spelled(prime, times(prime, 3, x)):
                        self.assertIs(judge(book, spelled), True)
                self.assertIs(sides_alike(book), left == right)
                self.assertIsNotNone(multiple(prime, right, backed(book, left)))
                self.assertIsNotNone(multiple(prime, left, backed(book, right)))
                if book.size <= 8:
                    turned = joins_turned(book)
                    self.assertEqual((swallowed_left(turned), swallowed_right(turned)), (right, left))
                    turned = splits_turned(book)
                    self.assertEqual((swallowed_left(turned), swallowed_right(turned)), (left, right))

    def test_families(self):
        for n, table in ((1, [[0]]), (6, samples.SIX), (16, samples.cyclic(16))):
            book = group_book(97, table)
            self.assertEqual(swallowed_left(book), (1,) * n)
            self.assertEqual(swallowed_right(book), (1,) * n)
            self.assertIs(sides_alike(book), True)
            other = other_way(book)
            self.assertEqual(swallowed_left(other), samples.unit(n, 0))
            self.assertEqual(swallowed_right(other), samples.unit(n, 0))
        for book in (shift_book(3, 2, 2), shift_book(7, 3, 2), shift_book(97, 4, 22), slip_book(2), slip_book(3)):
            self.assertIs(sides_alike(book), False)

    def test_beside(self):
        for one, other in ((shift_book(3, 2, 2), group_book(3, samples.cyclic(2))), (slip_book(2), slip_book(2)),
                           (shift_book(5, 2, 4), shift_book(5, 2, 4))):
            both = beside(one, other)
            for function in (swallowed_left, swallowed_right):
                wanted = tuple(a * b % one.prime for a in function(one) for b in function(other))
                self.assertEqual(function(both), wanted)

    def test_any_value(self):
        book = group_book(3, samples.cyclic(2))
        for judge in (is_swallowed_left, is_swallowed_right):
            self.assertIs(judge(book, (1, 1)), True)
            for value in self.wrong_rows(2):
                self.assertIs(judge(book, value), False)
            self.assertIs(judge(book, [True, True]), False)
            self.assertIs(judge(book, [False, False]), False)
            self.wants_books(judge, 1, [1, 1])
        for function in (swallowed_left, swallowed_right, sides_alike, shift_row):
            self.wants_books(function, 1)


class RowsTest(Case):

    def test_telling(self):
        for name, book in samples.more_books().items():
            prime = book.prime
            rows = samples.some_things(book, 4, 7)
            with self.subTest(name=name):
                for f, x in itertools.product(rows[:2], rows[2:]):
                    square = plainly.split(prime, book.splits, x)
                    firsts = tuple(sum(f[j] * square[j][k] for j in range(book.size)) % prime for k in range(book.size))
                    seconds = tuple(sum(f[k] * square[j][k] for k in range(book.size)) % prime for j in range(book.size))
                    for g, y in zip(self.spelled(prime, f), self.spelled(prime, x)):
                        self.assertEqual(row_tells(book, g, y), tell(book, f, x))
                        self.assertEqual(firsts_told(book, g, y), firsts)
                        self.assertEqual(seconds_told(book, g, y), seconds)
                    self.numbers_within(prime, firsts_told(book, f, x), 1)
                    self.assertIs(type(row_tells(book, f, x)), int)

    def test_refusals(self):
        book = group_book(3, samples.cyclic(2))
        for function in (row_tells, firsts_told, seconds_told):
            self.refuses_rows(BadRow, function, book, (0, 1))
            for value in self.wrong_rows(2):
                self.refused(BadRow, None, function, book, [1, 1], value)
            self.unchanged(function, book, [4, -1], [7, -7])

    def test_shift_row(self):
        for name, book in {**samples.more_books(), **samples.large_books()}.items():
            prime = book.prime
            with self.subTest(name=name):
                f, left, right = shift_row(book), swallowed_left(book), swallowed_right(book)
                self.numbers_within(prime, f, 1)
                for x in samples.plain(book.size):
                    self.assertEqual(put(book, left, x), times(prime, tell(book, f, x), left))
                    # The back of f, read the other way, tells of x what f tells of the back of x.
                    self.assertEqual(put(book, x, right), times(prime, tell(book, f, backed(book, x)), right))
                self.assertIsNotNone(multiple(prime, right, firsts_told(book, f, left)))
                self.assertIsNotNone(multiple(prime, right, seconds_told(book, f, left)))
                self.assertIs(sides_alike(book), f == book.counts)
                if book.size <= 9:
                    other = other_way(book)
                    self.assertTrue(is_selfsplit(other, f))
                    number = tell(book, f, shift_row(other))
                    self.assertEqual(backed(book, backed(book, left)), times(prime, number, left))

    def test_shift_rows_of_brackets(self):
        for prime, brackets, powers in ((2, *samples.slanted(2)), (3, *samples.slanted(3)), (2, *samples.level_three()),
                                        (2, *samples.squares_of_two()), (5, [[[0]]], [[3]])):
            book = bracket_book(prime, brackets, powers)
            sums = [sum(brackets[i][j][j] for j in range(len(brackets))) % prime for i in range(len(brackets))]
            self.assertEqual([shift_row(book)[prime ** i] for i in range(len(brackets))], sums)
            self.assertIs(sides_alike(book), not any(sums))

    def test_by_hand(self):
        book = shift_book(3, 2, 2)
        self.assertEqual(swallowed_left(book), (0, 1, 0, 1))
        self.assertEqual(swallowed_right(book), (0, 1, 0, 2))
        self.assertEqual(shift_row(book), (1, 0, 2, 0))


if __name__ == "__main__":
    unittest.main()
