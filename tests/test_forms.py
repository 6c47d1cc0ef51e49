"""Points 50 and 51: the swallowing row, forms, what passes from left to right, duals and shifts."""

import unittest

from splitbooks.bases import other_way
from splitbooks.doings import back_undone, backed
from splitbooks.errors import BadBasis, BadRow
from splitbooks.families import group_book
from splitbooks.forms import (
    back_by_form, duals, is_form, passing_square, row_form, shift_of, shifted, swallowing_row)
from splitbooks.swallowed import firsts_told, seconds_told, shift_row, swallowed_left, swallowed_right
from tests import plainly, samples
from tests.helping import Case
from tests.test_swallowed import multiple, put, tell, times


def all_books():
    return {**samples.more_books(), **samples.large_books()}


def pairs_to(prime, square, x, y):
    return sum(x[i] * square[i][j] * y[j] for i in range(len(x)) for j in range(len(y)) if x[i]) % prime


def judged_form(book, square):
    """Whether it is a form, by all things."""
    prime = book.prime
    things = samples.plain(book.size)
    for x in things:
        for y in things:
            for z in things:
                first = pairs_to(prime, square, put(book, x, y), z)
                if first != pairs_to(prime, square, x, put(book, y, z)):
                    return False
    return plainly.rank(square, prime) == book.size


def parts(square):
    """The sum of pairs that a square is: (number, first half, second half)."""
    things = samples.plain(len(square))
    return [(number, things[j], things[k]) for j, row in enumerate(square) for k, number in enumerate(row) if number]


def added(prime, rows, size):
    return tuple(sum(row[k] for row in rows) % prime for k in range(size))


def squares_added(prime, terms, size):
    """The square of the sum of number times the pairs of two things."""
    total = [[0] * size for _ in range(size)]
    for number, x, y in terms:
        for j, a in enumerate(x):
            if a:
                for k, b in enumerate(y):
                    total[j][k] += number * a * b
    return tuple(tuple(number % prime for number in row) for row in total)


class FormsTest(Case):

    def test_swallowing_row(self):
        for name, book in all_books().items():
            prime = book.prime
            with self.subTest(name=name):
                f = swallowing_row(book)
                self.numbers_within(prime, f, 1)
                for x in samples.plain(book.size):
                    told = tuple(sum(f[j] * plainly.split(prime, book.splits, x)[j][k] for j in range(book.size)) % prime
                                 for k in range(book.size))
                    self.assertEqual(told, times(prime, tell(book, f, x), book.one))
                self.assertEqual(tell(book, f, swallowed_left(book)), 1)
                self.assertEqual(tell(book, f, backed(book, swallowed_left(book))), 1)
                if book.size <= 6:
                    self.assertIsNotNone(multiple(prime, swallowed_right(other_way(book)), f))

    def test_just_one_swallowing_row(self):
        for name, book in samples.small_books(130).items():
            with self.subTest(name=name):
                found = []
                for f in samples.all_rows(book.prime, book.size):
                    if tell(book, f, swallowed_left(book)) == 1 and all(
                            firsts_told(book, f, x) == times(book.prime, tell(book, f, x), book.one)
                            for x in samples.plain(book.size)):
                        found.append(f)
                self.assertEqual(found, [swallowing_row(book)])

    def test_row_forms(self):
        for name, book in samples.more_books().items():
            prime = book.prime
            things = samples.plain(book.size)
            with self.subTest(name=name):
                for row in [swallowing_row(book), book.counts] + samples.some_things(book, 3, 11):
                    square = row_form(book, row)
                    self.numbers_within(prime, square, 2)
                    wanted = tuple(tuple(tell(book, row, put(book, x, y)) for y in things) for x in things)
                    self.assertEqual(square, wanted)
                    for spelled in self.spelled(prime, row):
                        self.assertEqual(row_form(book, spelled), wanted)
                    good = plainly.rank(square, prime) == book.size
                    self.assertIs(is_form(book, square), good)
                    self.assertIs(is_form(book, [self.spelled(prime, line)[1] for line in square]), good)
                    # One tells of each thing what the row does.
                    self.assertEqual(plainly.lead(prime, square, book.one), tuple(row))
                self.assertIs(is_form(book, row_form(book, swallowing_row(book))), True)

    def test_forms_of_two_and_three_things(self):
        for name in ("two over 2", "two over 3", "brackets 2, power 1", "brackets 2, power 0, other basis",
                     "two over 3, other way"):
            book = samples.books()[name]
            for numbers in samples.all_rows(book.prime, 4):
                square = (numbers[:2], numbers[2:])
                self.assertIs(is_form(book, square), judged_form(book, square))
        for name in ("three over 2", "shift 2 over 3", "slip 2", "slip 2, other way, other basis"):
            book = samples.more_books()[name]
            square = row_form(book, swallowing_row(book))
            self.assertTrue(judged_form(book, square))
            for j in range(book.size):
                for k in range(book.size):
                    other = [list(row) for row in square]
                    other[j][k] += 1
                    self.assertIs(is_form(book, other), judged_form(book, other))

    def test_any_value(self):
        book = group_book(3, samples.cyclic(2))
        self.assertIs(is_form(book, ((1, 0), (0, 1))), True)
        self.assertIs(is_form(book, [[4, -3], [0, 1]]), True)
        self.assertIs(is_form(book, [[1, 1], [1, 1]]), False)
        self.assertIs(is_form(book, [[0, 0], [0, 0]]), False)
        for value in self.wrong_squares(2) + [[[True, False], [False, True]]]:
            self.assertIs(is_form(book, value), False)
        self.wants_books(is_form, 1, [[1, 0], [0, 1]])
        self.refuses_rows(BadRow, row_form, book)
        self.wants_books(swallowing_row, 1)
        self.unchanged(is_form, book, [[4, -3], [0, 1]])


class PassingTest(Case):

    def test_passing_square(self):
        for name, book in samples.more_books().items():
            prime, size = book.prime, book.size
            with self.subTest(name=name):
                square = passing_square(book)
                self.numbers_within(prime, square, 2)
                halves = plainly.split(prime, book.splits, swallowed_left(book))
                self.assertEqual(square, plainly.lead_halves(prime, halves, samples.plain(size), book.back))
                row = swallowing_row(book)
                for x in samples.plain(size):
                    ahead = [(n, put(book, x, a), b) for n, a, b in parts(square)]
                    behind = [(n, a, put(book, b, x)) for n, a, b in parts(square)]
                    self.assertEqual(squares_added(prime, ahead, size), squares_added(prime, behind, size))
                    first = added(prime, [times(prime, n * tell(book, row, put(book, b, x)), a)
                                          for n, a, b in parts(square)], size)
                    second = added(prime, [times(prime, n * tell(book, row, put(book, x, a)), b)
                                           for n, a, b in parts(square)], size)
                    self.assertEqual((first, second), (x, x))
                rows = samples.some_things(book, size, 3)
                trace = sum(n * tell(book, row, put(book, b, plainly.lead(prime, rows, a))) for n, a, b in parts(square))
                self.assertEqual(trace % prime, sum(rows[k][k] for k in range(size)) % prime)

    def test_duals(self):
        for name, book in samples.more_books().items():
            prime, size = book.prime, book.size
            with self.subTest(name=name):
                for seed in (1, 2):
                    rows = samples.some_basis(size, prime, seed)
                    found = duals(book, rows)
                    self.assertIs(type(found), list)
                    self.numbers_within(prime, tuple(found), 2)
                    row = swallowing_row(book)
                    for i, x in enumerate(rows):
                        for j, y in enumerate(found):
                            self.assertEqual(tell(book, row, put(book, x, y)), int(i == j))
                    terms = [(1, y, x) for x, y in zip(rows, found)]
                    self.assertEqual(squares_added(prime, terms, size), passing_square(book))

    def test_back_by_form(self):
        for name, book in all_books().items():
            with self.subTest(name=name):
                self.assertEqual(back_by_form(book), back_undone(book))

    def test_back_by_form_by_pairs(self):
        for name, book in samples.small_books(10 ** 7).items():
            prime, size = book.prime, book.size
            row, halves = swallowing_row(book), plainly.split(prime, book.splits, swallowed_left(book))
            with self.subTest(name=name):
                wanted = [added(prime, [times(prime, n * tell(book, row, put(book, x, a)), b) for n, a, b in parts(halves)],
                                size) for x in samples.plain(size)]
                self.assertEqual(list(back_by_form(book)), wanted)

    def test_shifts(self):
        for name, book in samples.more_books().items():
            prime, size = book.prime, book.size
            with self.subTest(name=name):
                row = swallowing_row(book)
                for x in samples.some_things(book, 2, 5):
                    found = shifted(book, x)
                    self.assertEqual(found, tuple(tell(book, row, put(book, x, y)) for y in samples.plain(size)))
                    self.assertEqual(shift_of(book, found), x)
                    for spelled in self.spelled(prime, x):
                        self.assertEqual(shifted(book, spelled), found)
                        self.assertEqual(shifted(book, shift_of(book, spelled)), x)
                    sums = [times(prime, n * tell(book, x, a), b) for n, a, b in parts(passing_square(book))]
                    self.assertEqual(shift_of(book, x), added(prime, sums, size))

    def test_there_and_again(self):
        for name, book in samples.more_books().items():
            if book.size > 6:
                continue
            prime = book.prime
            other = other_way(book)
            with self.subTest(name=name):
                numbers = []
                for x in samples.plain(book.size) + tuple(samples.some_things(book, 2, 6)):
                    y = plainly.lead(prime, back_undone(book), x)
                    told = seconds_told(book, shift_row(book), y)
                    found = shifted(other, shifted(book, x))
                    if any(told):
                        numbers.append(multiple(prime, told, found))
                    else:
                        self.assertEqual(found, told)
                self.assertNotIn(None, numbers)
                self.assertEqual(numbers, numbers[:1] * len(numbers))

    def test_refusals(self):
        book = group_book(3, samples.cyclic(2))
        for value in self.wrong_squares(2) + [[[1, 1], [2, 2]], [[0, 0], [0, 1]], [[3, 0], [0, 1]]]:
            self.refused(BadBasis, None, duals, book, value)
        self.wants_books(duals, 1, [[1, 0], [0, 1]])
        self.refuses_rows(BadRow, shifted, book)
        self.refuses_rows(BadRow, shift_of, book)
        for function in (passing_square, back_by_form):
            self.wants_books(function, 1)
        self.keeps_lists(duals, book, [[1, 0], [4, -2]])
        self.unchanged(duals, book, [[1, 0], [4, -2]])
        self.unchanged(shift_of, book, [7, -2])

    def test_by_hand(self):
        book = group_book(3, samples.cyclic(2))
        self.assertEqual(swallowed_left(book), (1, 1))
        self.assertEqual(swallowing_row(book), (1, 0))
        self.assertEqual(passing_square(book), ((1, 0), (0, 1)))
        self.assertEqual(duals(book, [(1, 0), (1, 1)]), [(1, 2), (0, 1)])
        self.assertEqual(shifted(book, (0, 1)), (0, 1))


if __name__ == "__main__":
    unittest.main()
