"""Points 80 and 81: inner spans and side spans."""

import unittest

from splitbooks.bases import other_way
from splitbooks.books import Splitbook
from splitbooks.doings import backed
from splitbooks.errors import BadInner, BadNumber, BadRow, TooMany
from splitbooks.families import group_book, shift_book
from splitbooks.inner import (
    inner_book, inner_by, inner_fault, inner_spans, shared_span, side_by, side_fault, side_spans)
from splitbooks.leadings import is_leading
from tests import plainly, samples
from tests.helping import Case
from tests.spansamples import all_spans, least_span, moved_rows, some_spans, span_wrong, spanned_books

NO_SIDES = samples.STRANGE + [2, -1, "0", [0], (1,), 0.0, 1.0]


def things_lists(book, seed=1):
    """Lists of things of all kinds."""
    prime, n = book.prime, book.size
    rows = samples.some_things(book, 4, seed)
    return [[], [[0] * n], [book.one], rows[:1], rows[:2], rows[:1] + [book.one], list(samples.plain(n)),
            list(samples.plain(n))[1:], [samples.unit(n, n - 1)], rows + rows,
            [tuple(k * number for number in book.one) for k in range(prime)][-1:]]


class SpansTest(Case):

    def test_faults(self):
        told = {}
        for name, book in samples.more_books().items():
            if book.size > 6:
                continue
            lists = things_lists(book) + [least_span(book, samples.some_things(book, 1, 2), (0,))]
            for things in lists:
                with self.subTest(name=name, things=things):
                    wanted = span_wrong(book, things, (0, 1))
                    told[wanted and wanted[0]] = told.get(wanted and wanted[0], 0) + 1
                    self.assertEqual(self.unchanged(inner_fault, book, things), wanted)
                    for side in (0, 1):
                        self.assertEqual(self.unchanged(side_fault, book, things, side), span_wrong(book, things, (side,)))
                    if wanted is not None:
                        self.refused(BadInner, wanted, inner_book, book, things)
        self.assertEqual(sorted(told, key=str), [None, "joins", "one", "splits"])
        self.assertGreater(min(told.values()), 20)

    def test_faults_told_by_places(self):
        """The least places, of spans that go wrong late."""
        seen = {}
        for name in ("six over 5", "six over 2, other basis", "level", "shift beside two, other basis", "slip 3"):
            book = samples.books()[name]
            n = book.size
            for size in range(2, n):
                for rows in (samples.plain(n)[:size], [book.one] + list(samples.plain(n)[-size + 1:])):
                    with self.subTest(name=name, size=size):
                        for sides in ((0, 1), (0,), (1,)):
                            wanted = span_wrong(book, rows, sides)
                            found = inner_fault(book, rows) if len(sides) == 2 else side_fault(book, rows, sides[0])
                            self.assertEqual(found, wanted)
                            seen[wanted] = True
        self.assertGreater(len(seen), 12)

    def test_one_number_changed(self):
        """Of a span that is inner or of one side, each number of each row."""
        seen = {}
        for name in ("shift 2 over 3", "slip 2, other basis", "two and two over 3", "four over 2", "slanted 2, other way"):
            book = samples.more_books()[name]
            for side in (0, 1):
                for span in side_spans(book, side):
                    for i in range(len(span)):
                        for j in range(book.size):
                            rows = [list(row) for row in span]
                            rows[i][j] += 1
                            for sides in ((0, 1), (side,)):
                                wanted = span_wrong(book, rows, sides)
                                found = inner_fault(book, rows) if len(sides) == 2 else side_fault(book, rows, side)
                                seen[wanted] = True
                                self.assertEqual(found, wanted)
        self.assertGreater(len(seen), 5)

    def test_least_spans(self):
        for name, book in samples.more_books().items():
            if book.size > 6:
                continue
            for things in things_lists(book, 3):
                with self.subTest(name=name, things=things):
                    self.assertEqual(self.unchanged(inner_by, book, things), least_span(book, things, (0, 1)))
                    for side in (0, 1):
                        self.assertEqual(self.unchanged(side_by, book, things, side), least_span(book, things, (side,)))
            self.keeps_lists(inner_by, book, [book.one])
            self.keeps_lists(side_by, book, [book.one], 1)

    def test_least_spans_of_larger_books(self):
        for name in ("level, other basis", "shift 3 over 7", "slip 3", "two beside shift", "threes over 2, other basis"):
            book = samples.more_books()[name]
            for things in ([samples.unit(book.size, 1)], [samples.unit(book.size, book.size - 1)],
                           samples.some_things(book, 1, 4)):
                with self.subTest(name=name):
                    self.assertEqual(inner_by(book, things), least_span(book, things, (0, 1)))
                    self.assertEqual(side_by(book, things, 0), least_span(book, things, (0,)))
                    self.assertEqual(side_by(book, things, 1), least_span(book, things, (1,)))

    def test_spans_given_by_any_things(self):
        for name, (book, span, sides) in some_spans().items():
            rows = moved_rows(span, book.prime)
            with self.subTest(name=name):
                if plainly.rank(rows, book.prime) == len(span):
                    self.assertIsNone(side_fault(book, rows, sides[0]))
                    self.assertEqual(side_by(book, rows, sides[0]), span)
                    self.assertEqual(inner_fault(book, rows), inner_fault(book, span))

    def test_back(self):
        for name, (book, span, sides) in some_spans().items():
            led = plainly.tidy([backed(book, row) for row in span], book.prime)
            with self.subTest(name=name):
                if len(sides) == 2:
                    self.assertEqual(led, span)
                else:
                    self.assertIsNone(side_fault(book, led, 1 - sides[0]))

    def test_inner_book(self):
        for name, (book, span, sides) in some_spans().items():
            if inner_fault(book, span) is not None:
                continue
            with self.subTest(name=name):
                within = self.unchanged(inner_book, book, moved_rows(span, book.prime) + list(span))
                self.assertIs(type(within), Splitbook)
                self.assertEqual((within.prime, within.size), (book.prime, len(span)))
                self.assertIs(is_leading(within, book, span), True)
        for name, book in samples.more_books().items():
            self.assertEqual(inner_book(book, samples.plain(book.size)), book)
            self.assertEqual(inner_book(book, [book.one]).size, 1)

    def test_spans_of_inner_books(self):
        for name, book in spanned_books().items():
            spans = inner_spans(book)
            for span in spans:
                within = inner_book(book, span)
                led = [plainly.tidy([plainly.lead(book.prime, span, row) for row in rows], book.prime)
                       for rows in inner_spans(within)]
                with self.subTest(name=name):
                    self.assertEqual(sorted(led), sorted(rows for rows in spans
                                                         if all(plainly.is_sum(row, span, book.prime) for row in rows)))

    def test_shared(self):
        for name, book in samples.more_books().items():
            prime, n = book.prime, book.size
            if prime ** n > 400:
                continue
            lists = things_lists(book)
            with self.subTest(name=name):
                for one in lists[::2]:
                    for other in lists[1::3]:
                        found = self.unchanged(shared_span, book, one, other)
                        self.is_tidy(prime, n, found)
                        both = [row for row in samples.all_rows(prime, n)
                                if plainly.is_sum(row, one, prime) and plainly.is_sum(row, other, prime)]
                        self.assertEqual(found, plainly.tidy(both, prime))
                self.keeps_lists(shared_span, book, list(samples.plain(n)), [book.one])

    def test_shared_spans(self):
        for name, book in spanned_books().items():
            for sides in ((0, 1), (0,), (1,)):
                spans = inner_spans(book) if len(sides) == 2 else side_spans(book, sides[0])
                for one in spans[1:4]:
                    for other in spans[-4:]:
                        found = shared_span(book, one, other)
                        with self.subTest(name=name):
                            self.assertIn(found, spans)

    def test_by_hand(self):
        book = shift_book(3, 2, 2)
        rows = [(1, 0, 0, 0), (0, 1, 0, 0)]
        self.assertIsNone(side_fault(book, rows, 1))
        self.assertEqual(side_fault(book, rows, 0), ("splits", 1))
        self.assertEqual(inner_fault(book, rows), ("splits", 1))
        self.assertEqual(inner_by(book, rows[1:]), list(samples.plain(4)))
        self.assertEqual(side_by(book, rows[1:], 1), rows)

    def test_refused(self):
        book = group_book(3, samples.cyclic(2))
        wrong = [value for value in self.wrong_rows(2) if type(value) not in (list, tuple)
                 or value not in ([], (), [[1, 1]])]
        wrong += [[(1, 0), value] for value in self.wrong_rows(2)]
        for value in wrong:
            for function in (inner_fault, inner_by, inner_book):
                self.refused(BadRow, None, function, book, value)
            for function in (side_fault, side_by):
                self.refused(BadRow, None, function, book, value, 0)
                self.refused(BadRow, None, function, book, value, None)
            self.refused(BadRow, None, shared_span, book, value, None)
            self.refused(BadRow, None, shared_span, book, [(1, 0)], value)
        for value in NO_SIDES:
            for function in (side_fault, side_by):
                self.refused(BadNumber, "side", function, book, [(1, 0)], value)
            self.refused(BadNumber, "side", side_spans, book, value)
        for function in (inner_fault, inner_by, inner_book):
            self.wants_books(function, 1, [[1, 0]])
        for function in (side_fault, side_by):
            self.wants_books(function, 1, [[1, 0]], 0)
        self.wants_books(shared_span, 1, [[1, 0]], [[1, 0]])
        self.wants_books(inner_spans, 1)
        self.wants_books(side_spans, 1, 0)


class AllSpansTest(Case):

    def test_all_spans(self):
        seen = {}
        for name, book in samples.more_books().items():
            if book.prime ** book.size > 100:
                continue
            with self.subTest(name=name):
                self.assertEqual(inner_spans(book), all_spans(book, (0, 1)))
                for side in (0, 1):
                    self.assertEqual(side_spans(book, side), all_spans(book, (side,)))
                    seen[len(side_spans(book, side))] = name
        self.assertGreater(len(seen), 4)

    def test_spans(self):
        for name, book in spanned_books().items():
            with self.subTest(name=name):
                both, sides = inner_spans(book), [side_spans(book, side) for side in (0, 1)]
                for spans in [both] + sides:
                    self.assertEqual(spans, sorted(spans, key=lambda rows: (len(rows), rows)))
                    self.assertEqual(spans[0], plainly.tidy([book.one], book.prime))
                    self.assertEqual(spans[-1], list(samples.plain(book.size)))
                    for span in spans:
                        self.is_tidy(book.prime, book.size, span)
                        self.assertEqual(book.size % len(span), 0)
                for side in (0, 1):
                    for span in sides[side]:
                        self.assertIsNone(side_fault(book, span, side))
                self.assertEqual(both, [span for span in sides[0] if span in sides[1]])
                # The least span of any things is among them, and within each other one that has them.
                for things in things_lists(book, 5):
                    for side in (0, 1):
                        holding = [span for span in sides[side] if all(plainly.is_sum(x, span, book.prime) for x in things)]
                        self.assertEqual(side_by(book, things, side), holding[0])
                self.keeps_lists(inner_spans, book)
                self.keeps_lists(side_spans, book, 0)
                inner_spans(book)[0].append("more")
                self.assertEqual(inner_spans(book), both)

    def inner_groups(self, table):
        """All inner groups of a group, each as a sorted tuple of things."""
        found = {(0,)}
        while True:
            more = set(found)
            for group in found:
                for x in range(len(table)):
                    things = set(group) | {x}
                    while True:
                        wider = things | {table[a][b] for a in things for b in things}
                        if wider == things:
                            break
                        things = wider
                    more.add(tuple(sorted(things)))
            if more == found:
                return found
            found = more

    def test_groups(self):
        for prime, table in ((2, samples.SIX), (3, samples.SIX), (2, samples.EIGHT), (2, samples.QUATERNIONS), (5, samples.FOUR),
                             (2, samples.cyclic(9)), (3, samples.cyclic(6)), (7, samples.cyclic(3)), (23, samples.cyclic(2))):
            n = len(table)
            book = group_book(prime, table)
            groups = self.inner_groups(table)
            wanted = [[samples.unit(n, u) for u in group] for group in groups]
            wanted = sorted(wanted, key=lambda rows: (len(rows), rows))
            wanted = sorted((plainly.tidy(rows, prime) for rows in wanted), key=lambda rows: (len(rows), rows))
            self.assertEqual(inner_spans(book), wanted)
            self.assertEqual(side_spans(book, 0), wanted)
            self.assertEqual(side_spans(book, 1), wanted)
            other = other_way(book)
            spans, inner = [], []
            for side in (0, 1):
                told = []
                for group in groups:
                    lots = {tuple(sorted(table[u][s] if side == 0 else table[s][u] for u in group)) for s in range(n)}
                    rows = plainly.tidy([[int(s in lot) for s in range(n)] for lot in lots], prime)
                    told.append(rows)
                spans.append(sorted(told, key=lambda rows: (len(rows), rows)))
                self.assertEqual(side_spans(other, side), spans[side])
            inner = [rows for rows in spans[0] if rows in spans[1]]
            self.assertEqual(inner_spans(other), inner)

    def test_limit(self):
        for prime, size in ((2, 9), (3, 6), (5, 4), (7, 3), (23, 2), (97, 1)):
            book = group_book(prime, samples.cyclic(size))
            for found in (inner_spans(book), side_spans(book, 0), side_spans(book, 1)):
                self.assertEqual(len(found), sum(size % k == 0 for k in range(1, size + 1)))
        for prime, size in ((2, 10), (3, 7), (5, 5), (7, 4), (29, 2), (97, 2), (11, 3), (2, 16)):
            book = group_book(prime, samples.cyclic(size))
            self.refused(TooMany, 729, inner_spans, book)
            self.refused(TooMany, 729, side_spans, book, 1)
            self.refused(BadNumber, "side", side_spans, book, 2)


if __name__ == "__main__":
    unittest.main()
