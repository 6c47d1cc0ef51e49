"""Point 82: things over which a splitbook is free."""

import unittest

from splitbooks.errors import BadInner, BadRow
from splitbooks.families import group_book, shift_book
from splitbooks.freeing import free_left, free_right, is_free_left, is_free_right
from splitbooks.inner import inner_fault, side_fault, side_spans
from splitbooks.simples import walls_of
from splitbooks.inner import inner_book
from splitbooks.kinds import simple_kinds
from tests import plainly, samples
from tests.helping import Case
from tests.spansamples import joined_rows, moved_rows, some_spans, span_wrong, spanned_books


def free_plainly(book, span, things, left):
    """Whether each thing is a sum of those of a span joined to things, in just one way."""
    span = plainly.tidy(span, book.prime)
    things = [tuple(n % book.prime for n in row) for row in things]
    rows = joined_rows(book, span, things) if left else joined_rows(book, things, span)
    return len(rows) == book.size and plainly.rank(rows, book.prime) == book.size


class FreeingTest(Case):

    def check(self, book, span):
        for function, judge, left in ((free_left, is_free_left, True), (free_right, is_free_right, False)):
            found = self.unchanged(function, book, [list(row) for row in span])
            self.assertEqual(found[0], book.one)
            self.numbers_within(book.prime, tuple(found), 2)
            self.assertEqual(len(found) * len(span), book.size)
            self.assertTrue(free_plainly(book, span, found, left))
            self.assertIs(judge(book, span, found), True)
            self.assertIs(judge(book, span, [self.spelled(book.prime, row)[3] for row in found]), True)
            self.assertEqual(found, function(book, span))
            # What is free need not be so any longer once a thing is another one.
            worse = found[:-1] + [tuple(samples.some_things(book, 1, 8)[0])]
            self.assertIs(judge(book, span, worse), free_plainly(book, span, worse, left))
            self.assertIs(judge(book, span, found[:-1]), False)
            self.assertIs(judge(book, span, found + found[:1]), False)

    def test_all_spans(self):
        for name, book in spanned_books().items():
            for side in (0, 1):
                for span in side_spans(book, side):
                    with self.subTest(name=name, span=span):
                        self.check(book, span)

    def test_some_spans(self):
        seen = {}
        for name, (book, span, _) in some_spans().items():
            if name.rsplit(":")[0] not in spanned_books():
                seen[len(span), book.size] = True
                with self.subTest(name=name, span=span):
                    self.check(book, span)
        self.assertGreater(len(seen), 20)

    def test_blocks_of_squares(self):
        """Inner spans whose rest falls into squares of size 2, over a field and over numbers of degree 2."""
        for name, many in (("six and two over 5: first", 3), ("quaternions and two over 3: first", 5)):
            book, span, _ = some_spans()[name]
            self.assertEqual(len(walls_of(inner_book(book, span))), many)
            self.assertEqual(max(size for size, _, _ in simple_kinds(inner_book(book, span))), 2)
            self.check(book, span)
        book = group_book(2, samples.beside_groups(samples.TEN, [[0]]))
        self.check(book, list(samples.plain(10))[:1])
        book = group_book(2, samples.beside_groups(samples.cyclic(5), samples.cyclic(3)))
        span = [samples.unit(15, 3 * k) for k in range(5)]
        self.assertEqual([degree for _, degree, _ in simple_kinds(inner_book(book, span))], [1, 4])
        self.check(book, span)
        # Squares of size 2 that fade in part: six things over 2, in twelve.
        book = group_book(2, samples.beside_groups(samples.SIX, samples.cyclic(2)))
        self.check(book, [samples.unit(12, 2 * k) for k in range(6)])

    def test_given_by_any_things(self):
        for name, (book, span, _) in list(some_spans().items())[::7]:
            rows = moved_rows(span, book.prime)
            if plainly.rank(rows, book.prime) == len(span):
                with self.subTest(name=name):
                    self.assertEqual(free_left(book, rows), free_left(book, span))
                    self.assertEqual(free_right(book, rows), free_right(book, span))
                    self.assertIs(is_free_left(book, rows, free_left(book, span)), True)

    def test_all_lists(self):
        """Of a small book all lists of two things."""
        seen = {True: 0, False: 0}
        for book in (shift_book(3, 2, 2), group_book(3, samples.cyclic(4)), samples.books()["slip 2"]):
            spans = [span for side in (0, 1) for span in side_spans(book, side) if len(span) == 2]
            rows = list(samples.all_rows(book.prime, 4))
            for span in spans[:3]:
                for first in (book.one, rows[5], rows[11]):
                    for last in rows:
                        for judge, left in ((is_free_left, True), (is_free_right, False)):
                            told = free_plainly(book, span, [first, last], left)
                            seen[told] += 1
                            self.assertIs(judge(book, span, (first, last)), told)
        self.assertGreater(min(seen.values()), 200)

    def test_any_value(self):
        book = group_book(3, samples.cyclic(2))
        for judge in (is_free_left, is_free_right):
            for span in ([(1, 0)], [(1, 0), (0, 1)]):
                for value in samples.STRANGE + self.wrong_squares(2) + [[], [[1, 0], None], [[1, True], [1, 0]], (1, 0)]:
                    if value != [[1, 1]] or len(span) == 1:
                        self.assertIs(judge(book, span, value), False)
            self.assertIs(judge(book, [(1, 0)], ([1, 0], (3, -1))), True)
            self.assertIs(judge(book, [(1, 0)], [[1, 0], [0, True]]), False)
            self.assertIs(judge(book, [(1, 0), (0, 1)], [[1, 0]]), True)
            self.assertIs(judge(book, [(1, 0), (0, 1)], [[1, 1]]), False)

    def test_refused(self):
        book = group_book(3, samples.cyclic(2))
        for value in [value for value in self.wrong_rows(2) if type(value) not in (list, tuple)
                      or value not in ([], (), [[1, 1]])] + [[(1, 0), None], [(1, 0), (1, True)]]:
            for function in (free_left, free_right):
                self.refused(BadRow, None, function, book, value)
            for judge in (is_free_left, is_free_right):
                self.refused(BadRow, None, judge, book, value, None)
        for name, book in samples.books().items():
            if book.size > 4:
                continue
            for things in ([], [samples.unit(book.size, book.size - 1)], [book.one] + samples.some_things(book, 1, 6)):
                wanted = span_wrong(book, things, (0,))
                if wanted is not None and span_wrong(book, things, (1,)) is not None:
                    for function in (free_left, free_right):
                        self.refused(BadInner, wanted, function, book, things)
                    for judge in (is_free_left, is_free_right):
                        self.refused(BadInner, wanted, judge, book, things, None)
        # A side span of side 1 alone will do.
        book = shift_book(3, 2, 2)
        rows = [(1, 0, 0, 0), (0, 1, 0, 0)]
        self.assertIsNotNone(inner_fault(book, rows))
        self.assertIsNotNone(side_fault(book, rows, 0))
        self.check(book, rows)
        for function in (free_left, free_right):
            self.wants_books(function, 1, [[1]])
        for judge in (is_free_left, is_free_right):
            self.wants_books(judge, 1, [[1]], [[1]])

    def test_lists_are_new(self):
        book = shift_book(3, 2, 2)
        for function in (free_left, free_right):
            for span in side_spans(book, 0):
                self.keeps_lists(function, book, span)


if __name__ == "__main__":
    unittest.main()
