"""Point 60: lots, fading things and their steps, rows that trace."""

import unittest

from splitbooks.doings import backed
from splitbooks.errors import BadRow
from splitbooks.fading import fading_steps, fading_things, is_fading, left_lot, tracing_rows
from splitbooks.families import group_book
from tests import plainly, samples
from tests.helping import Case
from tests.test_forms import all_books
from tests.test_swallowed import put, tell


def comes_to_nothing(book, x):
    for _ in range(book.size):
        x = put(book, x, x)
    return not any(x)


def fades(book, x):
    return all(comes_to_nothing(book, put(book, y, x)) for y in samples.all_rows(book.prime, book.size))


def often(book, x, many):
    found = x
    for _ in range(many - 1):
        found = put(book, found, x)
    return found


class LotsTest(Case):

    def test_lots(self):
        for name, book in samples.more_books().items():
            prime = book.prime
            with self.subTest(name=name):
                for many in (0, 1, 2, 3):
                    things = samples.some_things(book, many, many)
                    wanted = [put(book, x, y) for x in samples.plain(book.size) for y in things]
                    found = left_lot(book, things)
                    self.is_tidy(prime, book.size, found)
                    self.assertEqual(found, plainly.tidy(wanted, prime))
                    self.assertEqual(left_lot(book, tuple(self.spelled(prime, y)[3] for y in things)), found)
                self.assertEqual(left_lot(book, [[0] * book.size, [book.prime] * book.size]), [])
                self.assertEqual(left_lot(book, [book.one]), list(samples.plain(book.size)))

    def test_refusals(self):
        book = group_book(3, samples.cyclic(2))
        for value in self.wrong_rows(2):
            self.refused(BadRow, None, left_lot, book, [value])
            self.refused(BadRow, None, left_lot, book, [[1, 0], value])
        for value in [v for v in samples.STRANGE if not isinstance(v, (list, tuple))] + [[1, 0], ((1, 0), 1), "", {}]:
            self.refused(BadRow, None, left_lot, book, value)
        self.wants_books(left_lot, 1, [[1, 0]])
        self.refuses_rows(BadRow, is_fading, book)
        for function in (fading_things, fading_steps, tracing_rows):
            self.wants_books(function, 1)
        self.unchanged(left_lot, book, [[4, -2], [1, 1]])
        self.keeps_lists(left_lot, book, [[1, 1]])


class FadingTest(Case):

    def test_small_books(self):
        for name, book in samples.small_books(130).items():
            with self.subTest(name=name):
                rows = list(samples.all_rows(book.prime, book.size))
                found = [x for x in rows if fades(book, x)]
                self.assertEqual(fading_things(book), plainly.tidy(found, book.prime))
                for x in rows:
                    self.assertIs(is_fading(book, x), x in found)

    def test_all_books(self):
        for name, book in all_books().items():
            prime, size = book.prime, book.size
            things = samples.plain(size)
            with self.subTest(name=name):
                found = fading_things(book)
                self.is_tidy(prime, size, found)
                tracing = tracing_rows(book)
                for x in found:
                    self.assertIs(is_fading(book, x), True)
                    self.assertIs(is_fading(book, self.spelled(prime, x)[1]), True)
                    self.assertTrue(comes_to_nothing(book, x))
                    self.assertTrue(plainly.is_sum(backed(book, x), found, prime))
                    for y in things:
                        self.assertTrue(plainly.is_sum(put(book, x, y), found, prime))
                        self.assertTrue(plainly.is_sum(put(book, y, x), found, prime))
                        for row in tracing:
                            self.assertEqual(tell(book, row, put(book, y, x)), 0)
                self.assertIs(is_fading(book, book.one), False)
                # All that tracing rows tell 0 of, with any thing ahead.
                equations = [[tell(book, row, put(book, y, x)) for row in tracing for y in things] for x in things]
                self.assertEqual(plainly.rank(equations, prime), size - len(found))

    def test_steps(self):
        several = 0
        for name, book in all_books().items():
            with self.subTest(name=name):
                steps = fading_steps(book)
                self.assertIs(type(steps), list)
                rows = fading_things(book)
                for step in steps:
                    self.is_tidy(book.prime, book.size, step)
                    self.assertEqual(step, rows)
                    self.assertNotEqual(step, [])
                    rows = plainly.tidy([put(book, x, y) for x in steps[0] for y in rows], book.prime)
                self.assertEqual(rows, [])
                several += len(steps) > 2
        self.assertGreater(several, 3)

    def test_steps_of_turns(self):
        steps = fading_steps(group_book(2, samples.cyclic(4)))
        self.assertEqual([len(step) for step in steps], [3, 2, 1])
        self.assertEqual(steps[-1], [(1, 1, 1, 1)])
        self.assertEqual(fading_steps(group_book(97, samples.cyclic(16))), [])
        self.assertEqual(fading_steps(group_book(2, [[0]])), [])

    def test_tracing_rows_of_small_books(self):
        for name, book in samples.small_books(130).items():
            prime = book.prime
            things = samples.plain(book.size)
            rows = list(samples.all_rows(prime, book.size))
            with self.subTest(name=name):
                found = []
                for f in rows:
                    if all(tell(book, f, put(book, x, y)) == tell(book, f, put(book, y, x)) for x in things for y in things):
                        if all(tell(book, f, often(book, x, prime)) == tell(book, f, x) for x in rows):
                            found.append(f)
                self.assertEqual(tracing_rows(book), plainly.tidy(found, prime))

    def test_tracing_rows(self):
        for name, book in all_books().items():
            prime = book.prime
            things = samples.plain(book.size)
            with self.subTest(name=name):
                found = tracing_rows(book)
                self.is_tidy(prime, book.size, found)
                self.assertTrue(plainly.is_sum(book.counts, found, prime))
                for f in found:
                    for x in things:
                        self.assertEqual([tell(book, f, row) for row in (put(book, x, y) for y in things)],
                                         [tell(book, f, row) for row in (put(book, y, x) for y in things)])
                    for x in samples.some_things(book, 2, 9):
                        self.assertEqual(tell(book, f, often(book, x, prime)), tell(book, f, x))

    def test_by_hand(self):
        book = group_book(2, samples.cyclic(2))
        self.assertEqual(fading_steps(book), [[(1, 1)]])
        self.assertEqual(tracing_rows(book), [(1, 1)])

    def test_lists(self):
        for function in (fading_things, fading_steps, tracing_rows):
            self.keeps_lists(function, group_book(2, samples.cyclic(4)))
        book = group_book(2, samples.cyclic(4))
        found = fading_steps(book)
        found[0].clear()
        self.assertEqual([len(step) for step in fading_steps(book)], [3, 2, 1])


if __name__ == "__main__":
    unittest.main()
