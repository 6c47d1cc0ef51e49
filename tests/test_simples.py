"""Points 61, 62 and the first part of 63: falling apart, keepers, traces, the middle and its walls."""

import itertools
import unittest

from splitbooks.bases import joins_turned, other_way, splits_turned
from splitbooks.doings import backed, counted
from splitbooks.errors import BadMap, BadRow
from splitbooks.fading import fading_things, left_lot
from splitbooks.families import group_book, shift_book
from splitbooks.forms import passing_square, swallowing_row
from splitbooks.simples import (
    falls_apart, falls_apart_both_ways, is_parting_square, left_keeper, map_trace, middle, parting_square,
    trace_by_halves, walls_of)
from splitbooks.swallowed import swallowed_left
from tests import plainly, samples
from tests.helping import Case
from tests.test_forms import added, all_books, parts, squares_added
from tests.test_swallowed import put, tell, times


def parts_well(book, square):
    """Whether it is a parting square, by its pairs."""
    prime, size = book.prime, book.size
    square = [[number % prime for number in row] for row in square]
    if added(prime, [times(prime, n, put(book, a, b)) for n, a, b in parts(square)], size) != book.one:
        return False
    for x in samples.plain(size):
        ahead = squares_added(prime, [(n, put(book, x, a), b) for n, a, b in parts(square)], size)
        if ahead != squares_added(prime, [(n, a, put(book, b, x)) for n, a, b in parts(square)], size):
            return False
    return True


class ApartTest(Case):

    def test_falling_apart(self):
        both = {True: 0, False: 0}
        for name, book in all_books().items():
            with self.subTest(name=name):
                apart = falls_apart(book)
                both[apart] += 1
                self.assertIs(apart, fading_things(book) == [])
                self.assertIs(apart, counted(book, swallowed_left(book)) != 0)
                square = parting_square(book)
                self.assertIs(apart, square is not None)
                if book.size <= 8:
                    self.assertIs(falls_apart(joins_turned(book)), apart)
                    self.assertIs(falls_apart(splits_turned(book)), apart)
                if apart:
                    self.numbers_within(book.prime, square, 2)
                    self.assertIs(is_parting_square(book, square), True)
                    count = counted(book, swallowed_left(book))
                    self.assertEqual(tuple(times(book.prime, count, row) for row in square), passing_square(book))
                    self.assertIs(is_parting_square(book, [self.spelled(book.prime, row)[1] for row in square]), True)
                self.assertIs(is_parting_square(book, [[0] * book.size] * book.size), False)
        self.assertGreater(min(both.values()), 20)

    def test_all_squares_of_two_things(self):
        for name, book in samples.more_books().items():
            if book.size == 2 and book.prime <= 3:
                with self.subTest(name=name):
                    found = 0
                    for numbers in samples.all_rows(book.prime, 4):
                        square = (numbers[:2], numbers[2:])
                        good = parts_well(book, square)
                        self.assertIs(is_parting_square(book, square), good)
                        found += good
                    self.assertIs(found > 0, falls_apart(book))

    def test_squares_that_part(self):
        for name in ("three over 7", "six over 5", "two over 3, other way", "four over 5, other basis"):
            book = samples.more_books()[name]
            square = parting_square(book)
            self.assertTrue(parts_well(book, square))
            for j in range(book.size):
                other = [list(row) for row in square]
                other[j][book.size - 1 - j] += 1
                self.assertIs(is_parting_square(book, other), parts_well(book, other))

    def test_keepers(self):
        for name, book in all_books().items():
            prime, size = book.prime, book.size
            if size > 9:
                continue
            with self.subTest(name=name):
                kept = True
                choices = [samples.some_things(book, many, many + 20) for many in (1, 2)] + [
                    [swallowed_left(book)], fading_things(book), [], [book.one], samples.plain(size)[1:2]]
                for things in choices:
                    lot = left_lot(book, things)
                    keeper = left_keeper(book, things)
                    if keeper is None:
                        kept = False
                        continue
                    self.numbers_within(prime, keeper, 1)
                    self.assertTrue(plainly.is_sum(keeper, lot + [(0,) * size], prime))
                    for x in lot:
                        self.assertEqual(put(book, x, keeper), x)
                    # Each thing: one of the lot, and one that joined to the keeper is 0.
                    gone = [[(a - b) % prime for a, b in zip(x, put(book, x, keeper))] for x in samples.plain(size)]
                    self.assertEqual(plainly.rank(gone, prime) + len(lot), size)
                    again = left_keeper(book, [self.spelled(prime, x)[1] for x in things])
                    self.assertEqual(again, keeper)
                self.assertIs(kept, falls_apart(book))

    def test_keepers_of_small_books(self):
        for name, book in samples.small_books(30).items():
            with self.subTest(name=name):
                rows = list(samples.all_rows(book.prime, book.size))
                for y in rows:
                    lot = left_lot(book, [y])
                    good = [e for e in rows if plainly.is_sum(e, lot + [(0,) * book.size], book.prime)
                            and all(put(book, x, e) == x for x in lot)]
                    self.assertIs(left_keeper(book, [y]) is None, not good)
                    self.assertIn(left_keeper(book, [y]), good or [None])

    def test_refusals(self):
        book = group_book(3, samples.cyclic(2))
        for value in self.wrong_squares(2) + [[[True, False], [False, True]]]:
            self.assertIs(is_parting_square(book, value), False)
        self.wants_books(is_parting_square, 1, [[1, 0], [0, 1]])
        for value in self.wrong_rows(2):
            self.refused(BadRow, None, left_keeper, book, [[1, 0], value])
        self.refused(BadRow, None, left_keeper, book, [1, 0])
        self.wants_books(left_keeper, 1, [[1, 0]])
        for function in (falls_apart, parting_square, falls_apart_both_ways, middle, walls_of):
            self.wants_books(function, 1)
        self.unchanged(left_keeper, book, [[4, -1]])
        self.unchanged(is_parting_square, book, [[5, 0], [0, -1]])


class TracesTest(Case):

    def test_traces(self):
        for name, book in all_books().items():
            prime, size = book.prime, book.size
            with self.subTest(name=name):
                row, halves = swallowing_row(book), plainly.split(prime, book.splits, swallowed_left(book))
                for rows in (samples.plain(size), book.back, samples.some_things(book, size, 4),
                             [[prime + k - 3 * j for j in range(size)] for k in range(size)]):
                    wanted = sum(rows[k][k] for k in range(size)) % prime
                    self.assertEqual(map_trace(book, rows), wanted)
                    self.assertEqual(trace_by_halves(book, rows), wanted)
                    if size <= 6:
                        told = sum(n * tell(book, row, put(book, backed(book, b), plainly.lead(prime, rows, a)))
                                   for n, a, b in parts(halves))
                        self.assertEqual(told % prime, wanted)
                twice = [backed(book, x) for x in book.back]
                number = counted(book, swallowed_left(book)) * tell(book, row, book.one) % prime
                self.assertEqual(map_trace(book, twice), number)

    def test_both_ways(self):
        found = {True: 0, False: 0}
        for name, book in all_books().items():
            with self.subTest(name=name):
                both = falls_apart_both_ways(book)
                self.assertIs(type(both), bool)
                found[both] += 1
                twice = tuple(backed(book, x) for x in book.back)
                self.assertIs(both, sum(twice[k][k] for k in range(book.size)) % book.prime != 0)
                self.assertIs(both, twice == samples.plain(book.size) and book.size % book.prime != 0)
                if book.size <= 9:
                    self.assertIs(both, falls_apart(book) and falls_apart(other_way(book)))
        self.assertGreater(min(found.values()), 10)

    def test_refusals(self):
        book = group_book(3, samples.cyclic(2))
        for function in (map_trace, trace_by_halves):
            for value in self.wrong_squares(2):
                self.refused(BadMap, None, function, book, value)
            self.wants_books(function, 1, [[1, 0], [0, 1]])
            self.unchanged(function, book, [[7, -1], [2, -5]])
            self.assertIs(type(function(book, [[1, 0], [0, 1]])), int)


class WallsTest(Case):

    def test_middle(self):
        for name, book in all_books().items():
            prime, size = book.prime, book.size
            things = samples.plain(size)
            with self.subTest(name=name):
                found = middle(book)
                self.is_tidy(prime, size, found)
                rows = []
                for x in things:
                    line = []
                    for y in things:
                        line += [a - b for a, b in zip(put(book, x, y), put(book, y, x))]
                    rows.append(line)
                for x in found:
                    for y in things:
                        self.assertEqual(put(book, x, y), put(book, y, x))
                self.assertEqual(len(found) + plainly.rank(rows, prime), size)

    def test_walls_of_small_books(self):
        for name, book in samples.small_books(300).items():
            prime = book.prime
            zero = (0,) * book.size
            with self.subTest(name=name):
                inner = middle(book)
                rows = [plainly.lead(prime, inner, numbers) for numbers in samples.all_rows(prime, len(inner))]
                walls = [x for x in rows if any(x) and put(book, x, x) == x]
                sums = [tuple((a + b) % prime for a, b in zip(x, y)) for x, y in itertools.combinations(walls, 2)
                        if put(book, x, y) == zero]
                self.assertEqual(walls_of(book), sorted(x for x in walls if x not in sums))

    def test_walls(self):
        several = 0
        for name, book in all_books().items():
            prime, size = book.prime, book.size
            with self.subTest(name=name):
                found = walls_of(book)
                self.assertIs(type(found), list)
                self.assertEqual(found, sorted(found))
                several += len(found) > 2
                for at, x in enumerate(found):
                    self.numbers_within(prime, x, 1)
                    self.assertTrue(plainly.is_sum(x, middle(book), prime))
                    for other, y in enumerate(found):
                        self.assertEqual(put(book, x, y), x if at == other else (0,) * size)
                    self.assertIn(backed(book, x), found)
                self.assertEqual(added(prime, found, size), book.one)
                self.assertEqual(sorted(counted(book, x) for x in found), [0] * (len(found) - 1) + [1])
        self.assertGreater(several, 10)

    def test_numbers_of_walls(self):
        # Six turns over 7: as many walls as things; over 2 three turns have two, sixteen over 97 sixteen.
        self.assertEqual(len(walls_of(group_book(7, samples.cyclic(6)))), 6)
        self.assertEqual(len(walls_of(group_book(2, samples.cyclic(3)))), 2)
        self.assertEqual(len(walls_of(samples.large_books()["sixteen over 97"])), 16)
        self.assertEqual(walls_of(group_book(5, samples.cyclic(5))), [(1, 0, 0, 0, 0)])
        self.assertEqual(len(walls_of(group_book(5, samples.SIX))), 3)
        self.assertEqual(len(walls_of(shift_book(3, 2, 2))), 1)

    def test_lists(self):
        for function in (middle, walls_of):
            self.keeps_lists(function, group_book(5, samples.SIX))


if __name__ == "__main__":
    unittest.main()
