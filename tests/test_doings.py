"""Point 12: what is done with things of a splitbook and with maps."""

import unittest

from splitbooks import errors
from splitbooks.bases import in_basis, joins_turned, other_way, splits_turned
from splitbooks.books import Splitbook
from splitbooks.doings import (
    back_undone, backed, convolved, convolved_back, counted, halves_joined, joined, joined_all, split,
    squares_joined, unit_map)
from splitbooks.families import group_book
from tests import plainly, samples
from tests.helping import Case
from tests.samples import STRANGE


def not_rows(size):
    return STRANGE + [[0] * (size - 1), [0] * (size + 1), [[0] * size], [0] * (size - 1) + [True],
                      [0] * (size - 1) + [0.0], (0,) * (size - 1) + ("0",), range(size), 7, {k: 0 for k in range(size)}]


def not_squares(size):
    row = [0] * size
    return STRANGE + [[row] * (size - 1), [row] * (size + 1), [[row] * size], [row] * (size - 1) + [[0] * (size + 1)],
                      [row] * (size - 1) + [[0] * (size - 1) + [False]], [row] * (size - 1) + [range(size)], row, 7]


def sample_squares(book, many):
    rows = samples.some_things(book, many * book.size, 3)
    return [tuple(rows[k * book.size:(k + 1) * book.size]) for k in range(many)]


class DoingsTest(Case):

    def test_as_the_tables_tell(self):
        for name, book in samples.books().items():
            prime = book.prime
            with self.subTest(name=name):
                things = samples.some_things(book, 4) + [samples.unit(book.size, book.size - 1), (0,) * book.size]
                for x in things:
                    self.assertEqual(split(book, x), plainly.split(prime, book.splits, x))
                    self.assertEqual(counted(book, x), plainly.count(prime, book.counts, x))
                    self.assertEqual(backed(book, x), plainly.lead(prime, book.back, x))
                    for y in things:
                        self.assertEqual(joined(book, x, y), plainly.join(prime, book.joins, x, y))
                if book.size <= 4:
                    for one in sample_squares(book, 2):
                        for other in sample_squares(book, 3):
                            self.assertEqual(squares_joined(book, one, other),
                                             plainly.join_squares(prime, book.joins, one, other))
                for square in sample_squares(book, 2):
                    total = [0] * book.size
                    for j in range(book.size):
                        for k in range(book.size):
                            total = [a + square[j][k] * b for a, b in zip(total, book.joins[j][k])]
                    self.assertEqual(halves_joined(book, square), tuple(number % prime for number in total))

    def test_joined_all(self):
        for name, book in samples.books().items():
            with self.subTest(name=name):
                x, y, z = samples.some_things(book, 3)
                self.assertEqual(joined_all(book, []), book.one)
                self.assertEqual(joined_all(book, ()), book.one)
                self.assertEqual(joined_all(book, [x]), x)
                self.assertEqual(joined_all(book, [x, y]), joined(book, x, y))
                self.assertEqual(joined_all(book, (x, list(y), z)), joined(book, joined(book, x, y), z))

    def test_kinds_of_what_is_returned(self):
        book = samples.books()["shift 3 over 7, other basis"]
        x, y = ([number - 14 for number in thing] for thing in samples.some_things(book, 2))
        square = [list(row) for row in sample_squares(book, 1)[0]]
        self.numbers_within(7, self.unchanged(joined, book, x, y), 1)
        self.numbers_within(7, self.unchanged(joined_all, book, [x, y, x]), 1)
        self.numbers_within(7, joined_all(book, [x]), 1)
        self.numbers_within(7, joined_all(book, []), 1)
        self.numbers_within(7, self.unchanged(split, book, x), 2)
        self.assertIs(type(counted(book, x)), int)
        self.assertTrue(0 <= counted(book, x) < 7)
        self.numbers_within(7, self.unchanged(backed, book, x), 1)
        self.numbers_within(7, self.unchanged(squares_joined, book, square, square), 2)
        self.numbers_within(7, self.unchanged(halves_joined, book, square), 1)
        self.numbers_within(7, self.unchanged(convolved, book, book, square, square), 2)
        self.numbers_within(7, unit_map(book, book), 2)
        self.numbers_within(7, self.unchanged(convolved_back, book, book, [list(row) for row in book.back]), 2)
        self.numbers_within(7, back_undone(book), 2)

    def test_numbers_beyond_the_prime(self):
        book = samples.books()["slanted 3, other basis"]
        x, y = samples.some_things(book, 2)
        far_x, far_y = [number - 9 for number in x], tuple(number + 3 * 10 ** 30 for number in y)
        self.assertEqual(joined(book, far_x, far_y), joined(book, x, y))
        self.assertEqual(split(book, far_x), split(book, x))
        self.assertEqual(counted(book, far_x), counted(book, x))
        self.assertEqual(backed(book, far_y), backed(book, y))
        square = sample_squares(book, 1)[0]
        far = [[number - 6 for number in row] for row in square]
        self.assertEqual(squares_joined(book, far, far), squares_joined(book, square, square))
        self.assertEqual(halves_joined(book, far), halves_joined(book, square))
        self.assertEqual(convolved(book, book, far, far), convolved(book, book, square, square))
        self.assertEqual(convolved_back(book, book, far), convolved_back(book, book, square))

    def test_facts_of_the_back(self):
        books = list(samples.books().items()) + list(samples.large_books().items())
        for name, book in books:
            with self.subTest(name=name):
                prime, undone = book.prime, back_undone(book)
                self.assertEqual(tuple(plainly.lead(prime, undone, row) for row in book.back),
                                 samples.plain(book.size))
                self.assertEqual(tuple(plainly.lead(prime, book.back, row) for row in undone),
                                 samples.plain(book.size))
                self.assertEqual(backed(book, book.one), book.one)
                for x, y in zip(samples.some_things(book, 3), samples.some_things(book, 3, 2)):
                    self.assertEqual(counted(book, backed(book, x)), counted(book, x))
                    self.assertEqual(backed(book, joined(book, x, y)), joined(book, backed(book, y), backed(book, x)))
                    led = plainly.lead_halves(prime, split(book, x), book.back, book.back)
                    self.assertEqual(split(book, backed(book, x)), tuple(zip(*led)))
                    halves = plainly.lead_halves(prime, split(book, x), book.back, samples.plain(book.size))
                    wanted = tuple(counted(book, x) * number % prime for number in book.one)
                    self.assertEqual(halves_joined(book, halves), wanted)

    def test_refusals(self):
        book = samples.families()["shift 2 over 3"]
        good, square = (0, 1, 0, 0), samples.plain(4)
        for function in (split, counted, backed):
            self.wants_books(function, 1, good)
            for strange in not_rows(4):
                self.refused(errors.BadRow, None, function, book, strange)
        self.wants_books(joined, 1, good, good)
        for strange in not_rows(4):
            self.refused(errors.BadRow, None, joined, book, strange, good)
            self.refused(errors.BadRow, None, joined, book, good, strange)
        self.wants_books(joined_all, 1, [good])
        for strange in not_rows(4):
            self.refused(errors.BadRow, None, joined_all, book, [good, strange])
            if strange != [[0] * 4]:
                self.refused(errors.BadRow, None, joined_all, book, strange)
        self.refused(errors.BadRow, None, joined_all, book, good)
        self.wants_books(squares_joined, 1, square, square)
        self.wants_books(halves_joined, 1, square)
        for strange in not_squares(4):
            self.refused(errors.BadSquare, None, squares_joined, book, strange, square)
            self.refused(errors.BadSquare, None, squares_joined, book, square, strange)
            self.refused(errors.BadSquare, None, halves_joined, book, strange)
        self.wants_books(back_undone, 1)


class MapsTest(Case):

    def test_convolved_plainly(self):
        books = samples.books()
        for one, other in (("two over 3", "shift 2 over 3, other basis"), ("slanted 2, other basis", "slip 2"),
                           ("shift 2 over 3, other way, other basis", "three over 3"), ("one thing", "one thing"),
                           ("level, other basis", "two over 2")):
            book, other = books[one], books[other]
            prime = book.prime
            maps = [[tuple((i * 3 + j * j + seed + 1) % prime for j in range(other.size)) for i in range(book.size)]
                    for seed in range(3)]
            for first in maps:
                for second in maps:
                    wanted = []
                    for square in book.splits:
                        total = [0] * other.size
                        for j in range(book.size):
                            for k in range(book.size):
                                row = plainly.join(prime, other.joins, first[j], second[k])
                                total = [a + square[j][k] * b for a, b in zip(total, row)]
                        wanted.append(tuple(number % prime for number in total))
                    self.assertEqual(convolved(book, other, first, second), tuple(wanted))

    def test_facts(self):
        for name, book in samples.books().items():
            with self.subTest(name=name):
                plain = samples.plain(book.size)
                unit = unit_map(book, book)
                self.assertEqual(unit, tuple(tuple(count * number % book.prime for number in book.one)
                                             for count in book.counts))
                one, other, third = sample_squares(book, 3)
                self.assertEqual(convolved(book, book, unit, one), one)
                self.assertEqual(convolved(book, book, one, unit), one)
                self.assertEqual(convolved(book, book, convolved(book, book, one, other), third),
                                 convolved(book, book, one, convolved(book, book, other, third)))
                self.assertEqual(convolved_back(book, book, plain), book.back)
                self.assertEqual(convolved_back(book, book, book.back), plain)
                self.assertEqual(convolved(book, book, plain, book.back), unit)
                self.assertEqual(convolved(book, book, book.back, plain), unit)
                self.assertEqual(convolved_back(book, book, unit), unit)

    def test_convolved_back_of_any_map(self):
        found = {True: 0, False: 0}
        for name, book in samples.books().items():
            if book.size > 4:
                continue
            prime, size = book.prime, book.size
            unit = unit_map(book, book)
            for first in sample_squares(book, 4) + [((0,) * size,) * size]:
                back = convolved_back(book, book, first)
                equations = []
                for i in range(size):
                    for n in range(size):
                        row = [0] * size ** 2
                        for a in range(size):
                            for m in range(size):
                                for b in range(size):
                                    led = sum(first[b][q] * book.joins[m][q][n] for q in range(size))
                                    row[a * size + m] += book.splits[i][a][b] * led
                        equations.append(row + [unit[i][n]])
                with self.subTest(name=name):
                    self.assertEqual(back is None, plainly.solved(equations, size ** 2, prime) is None)
                    found[back is None] += 1
                    if back is not None:
                        self.assertEqual(convolved(book, book, back, first), unit)
                        self.assertEqual(convolved(book, book, first, back), unit)
        self.assertTrue(found[True] > 20 and found[False] > 20, found)

    def test_convolved_back_between_books(self):
        books = samples.books()
        group = books["two over 3"]
        shift = books["shift 2 over 3, other basis"]
        self.assertEqual(unit_map(group, shift), (shift.one, shift.one))
        self.assertEqual(unit_map(shift, group), tuple((count, 0) for count in shift.counts))
        # What is selfsplit is convolved back by leading it to what undoes its row.
        first = [(2, 0), (0, 1)]
        self.assertEqual(convolved_back(group, group, first), ((2, 0), (0, 1)))
        self.assertIsNone(convolved_back(group, group, [(1, 1), (1, 0)]))
        self.assertIsNone(convolved_back(group, group, [(1, 2), (1, 0)]))
        self.assertEqual(convolved_back(group, group, [(0, 2), (0, 2)]), ((0, 2), (0, 2)))
        back = convolved_back(group, shift, [shift.one, [2 * number for number in shift.one]])
        self.assertEqual(back, (shift.one, tuple(2 * number % 3 for number in shift.one)))

    def test_large(self):
        for name, book in samples.large_books().items():
            with self.subTest(name=name):
                self.assertEqual(convolved_back(book, book, samples.plain(book.size)), book.back)
                self.assertEqual(convolved_back(book, book, book.back), samples.plain(book.size))

    def test_turned_backs(self):
        for name, book in samples.families().items():
            with self.subTest(name=name):
                self.assertEqual(joins_turned(book).back, back_undone(book))
                self.assertEqual(splits_turned(book).back, back_undone(book))
                self.assertEqual(back_undone(other_way(book)), tuple(zip(*back_undone(book))))

    def test_refusals(self):
        two, four = samples.families()["two over 3"], samples.families()["shift 2 over 3"]
        more = samples.families()["two over 2"]
        good = [[1, 0, 0, 0]] * 2
        self.wants_books(convolved, 2, good, good)
        self.wants_books(unit_map, 2)
        self.wants_books(convolved_back, 2, good)
        self.refused(errors.BadShape, "prime", unit_map, two, more)
        self.refused(errors.BadShape, "prime", convolved, two, more, None, None)
        self.refused(errors.BadShape, "prime", convolved_back, more, two, None)
        for strange in STRANGE + [good[:1], good + good[:1], [[1, 0]] * 2, [[1, 0]] * 4, [[1, 0, 0, True]] * 2,
                                  [[1, 0, 0, 0], [1, 0, 0]], [[1, 0, 0, 0], "abcd"], [1, 2], samples.plain(4)]:
            self.refused(errors.BadMap, None, convolved, two, four, strange, good)
            self.refused(errors.BadMap, None, convolved, two, four, good, strange)
            self.refused(errors.BadMap, None, convolved_back, two, four, strange)
        convolved(two, four, good, good)

    def test_same_answers_after_changing_what_was_handed_in(self):
        rows = [[1, 2], [0, 1]]
        book = in_basis(group_book(5, [[0, 1], [1, 0]]), rows)
        first = [[1, 0], [0, 1]]
        back = convolved_back(book, book, first)
        first[0][0] = 4
        rows[0][0] = 3
        self.assertEqual(back, book.back)
        self.assertIsInstance(book, Splitbook)
        self.assertEqual(convolved_back(book, book, [[1, 0], [0, 1]]), back)


if __name__ == "__main__":
    unittest.main()
