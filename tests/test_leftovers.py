"""Points 83 to 86: what is lost, mates, spans that stay, what is left, and pieces that fit."""

import unittest

from splitbooks.bases import other_way
from splitbooks.books import Splitbook
from splitbooks.errors import BadInner, BadNumber, BadRow, BadStay
from splitbooks.families import group_book, shift_book
from splitbooks.inner import inner_book, inner_by, inner_fault, inner_spans, shared_span, side_fault, side_spans
from splitbooks.leadings import are_alike, is_leading
from splitbooks.leftovers import (
    leading_to_left, left_by, lost_left, lost_right, mate, stays, together_fit, unshifted)
from tests import dense, plainly, plainrooms, samples
from tests.helping import Case
from tests.spansamples import count_less, joined_rows, moved_rows, some_spans, span_wrong, spanned_books
from tests.test_inner import NO_SIDES, things_lists


def within(book, span, rows):
    """The rows as sums of multiples of those of a tidy list."""
    places = [next(k for k, n in enumerate(row) if n) for row in span]
    return [tuple(row[k] for k in places) for row in rows]


def stays_plainly(book, span, back_ahead=False):
    """Whether the sum of first halves joined to a joined to the back of second halves is in the span, always.

    Or, if so asked, that of the back of first halves joined to a joined to second halves.
    """
    prime, plain = book.prime, samples.plain(book.size)
    firsts, seconds = (book.back, plain) if back_ahead else (plain, book.back)
    for square in book.splits:
        for x in span:
            total = [0] * book.size
            for a, b, number in plainrooms.pairs(square):
                row = plainly.join(prime, book.joins, plainly.join(prime, book.joins, firsts[a], x), seconds[b])
                total = [so_far + number * more for so_far, more in zip(total, row)]
            if not plainly.is_sum(total, span, prime):
                return False
    return True


def unshifted_plainly(book, things, side):
    """All things whose split, less the pair with one, has a half in the span; of small books."""
    prime, n = book.prime, book.size
    flats = [[a * b for a in (samples.unit(n, k) if side else x) for b in (x if side else samples.unit(n, k))]
             for x in things for k in range(n)]
    rows = []
    for x in samples.all_rows(prime, n):
        square = plainly.split(prime, book.splits, x)
        pair = plainly.pair(prime, x, book.one) if side else plainly.pair(prime, book.one, x)
        less = [a - b for row, line in zip(square, pair) for a, b in zip(row, line)]
        if plainly.is_sum(less, flats, prime):
            rows.append(x)
    return plainly.tidy(rows, prime)


class LostTest(Case):

    def test_lost(self):
        for name, (book, span, _) in some_spans().items():
            less = count_less(book, span)
            things = samples.plain(book.size)
            with self.subTest(name=name):
                left, right = lost_left(book, span), lost_right(book, span)
                self.is_tidy(book.prime, book.size, left)
                self.is_tidy(book.prime, book.size, right)
                if book.size <= 9:
                    self.assertEqual(left, plainly.tidy(joined_rows(book, things, less), book.prime))
                    self.assertEqual(right, plainly.tidy(joined_rows(book, less, things), book.prime))
                self.assertEqual(len(left), book.size - book.size // len(span))
                self.assertEqual(len(right), book.size - book.size // len(span))
                rows = moved_rows(span, book.prime)
                if plainly.rank(rows, book.prime) == len(span):
                    self.assertEqual(self.unchanged(lost_left, book, rows), left)
                    self.assertEqual(lost_right(book, rows), right)
        self.keeps_lists(lost_left, book, span)
        self.keeps_lists(lost_right, book, span)

    def test_there_and_back(self):
        for name, book in spanned_books().items():
            for side in (0, 1):
                for span in side_spans(book, side):
                    with self.subTest(name=name, span=span):
                        self.assertEqual(unshifted(book, lost_left(book, span), side), span)
                        self.assertEqual(unshifted(book, lost_right(book, span), side), span)
        for name, (book, span, sides) in some_spans().items():
            for side in sides:
                with self.subTest(name=name):
                    self.assertEqual(unshifted(book, lost_left(book, span), side), span)
                    self.assertEqual(unshifted(book, lost_right(book, span), side), span)

    def test_unshifted(self):
        for name, book in samples.more_books().items():
            if book.prime ** book.size > 130:
                continue
            for things in things_lists(book, 2):
                for side in (0, 1):
                    with self.subTest(name=name, things=things, side=side):
                        found = self.unchanged(unshifted, book, things, side)
                        self.is_tidy(book.prime, book.size, found)
                        if book.prime ** book.size <= 30 or len(things) < 3:
                            self.assertEqual(found, unshifted_plainly(book, things, side))
                        self.assertEqual(found, unshifted(book, [self.spelled(book.prime, x)[1] for x in things], side))
            self.keeps_lists(unshifted, book, [book.one], 0)

    def test_mates(self):
        for name, book in spanned_books().items():
            other = other_way(book)
            for side in (0, 1):
                spans = side_spans(book, side)
                mates = [mate(book, span, side) for span in spans]
                with self.subTest(name=name, side=side):
                    self.assertEqual(sorted(mates, key=lambda rows: (len(rows), rows)), side_spans(other, side))
                    for span, found in zip(spans, mates):
                        self.is_tidy(book.prime, book.size, found)
                        lost = (lost_left if side else lost_right)(book, span)
                        for row in found:
                            self.assertTrue(all(plainly.count(book.prime, row, x) == 0 for x in lost))
                        self.assertEqual(len(found), book.size - len(lost))
                        self.assertEqual(len(found) * len(span), book.size)
                        self.assertIsNone(side_fault(other, found, side))
                        self.assertEqual(mate(other, found, side), span)
                    for one, first in zip(spans, mates):
                        for two, last in zip(spans, mates):
                            if all(plainly.is_sum(row, one, book.prime) for row in two):
                                self.assertTrue(all(plainly.is_sum(row, last, book.prime) for row in first))

    def test_mates_of_larger_books(self):
        for name, (book, span, sides) in some_spans().items():
            if book.size <= 9 and name.rsplit(":")[0] not in spanned_books():
                for side in sides:
                    found = mate(book, moved_rows(span, book.prime) + list(span), side)
                    with self.subTest(name=name):
                        self.assertEqual(len(found) * len(span), book.size)
                        self.assertEqual(mate(other_way(book), found, side), span)
                        self.keeps_lists(mate, book, span, side)

    def test_refused(self):
        book = group_book(3, samples.cyclic(2))
        wrong = [value for value in self.wrong_rows(2) if type(value) not in (list, tuple)
                 or value not in ([], (), [[1, 1]])] + [[(1, 0), None], [(1, 0), (1, True)]]
        for value in wrong:
            for function in (lost_left, lost_right, stays, left_by, leading_to_left):
                self.refused(BadRow, None, function, book, value)
            for function in (unshifted, mate):
                self.refused(BadRow, None, function, book, value, None)
            self.refused(BadRow, None, together_fit, book, value, None)
            self.refused(BadRow, None, together_fit, book, [(1, 0)], value)
        for value in NO_SIDES:
            self.refused(BadNumber, "side", unshifted, book, [(0, 1)], value)
            self.refused(BadNumber, "side", mate, book, [(0, 1)], value)
        for function in (lost_left, lost_right, stays, left_by, leading_to_left):
            self.wants_books(function, 1, [[1]])
        for function in (unshifted, mate):
            self.wants_books(function, 1, [[1]], 0)
        self.wants_books(together_fit, 1, [[1]], [[1]])

    def test_spans_refused(self):
        seen = {}
        for name, book in samples.books().items():
            if book.size > 4:
                continue
            for things in things_lists(book, 7) + [span for side in (0, 1) for span in side_spans(
                    book, side) if book.prime ** book.size <= 729]:
                faults = [span_wrong(book, things, sides) for sides in ((0, 1), (0,), (1,))]
                seen[faults[0] and faults[0][0]] = True
                with self.subTest(name=name, things=things):
                    if faults[0] is not None:
                        for function in (stays, left_by, leading_to_left):
                            self.refused(BadInner, faults[0], function, book, things)
                        self.refused(BadInner, faults[0], together_fit, book, things, None)
                        self.refused(BadInner, faults[0], together_fit, book, [book.one], things)
                    if faults[1] is not None and faults[2] is not None:
                        self.refused(BadInner, faults[1], lost_left, book, things)
                        self.refused(BadInner, faults[1], lost_right, book, things)
                    for side in (0, 1):
                        if faults[1 + side] is not None:
                            self.refused(BadInner, faults[1 + side], mate, book, things, side)
        self.assertEqual(sorted(seen, key=str), [None, "joins", "one", "splits"])


class StayTest(Case):

    def test_stays(self):
        both = {True: 0, False: 0}
        for name, (book, span, _) in some_spans().items():
            if inner_fault(book, span) is not None or (book.size > 9 and not name.endswith(("inner 2", "first"))):
                continue
            told = stays(book, span)
            both[told] += 1
            with self.subTest(name=name):
                self.assertIs(told, lost_left(book, span) == lost_right(book, span))
                if book.size <= 6:
                    self.assertIs(told, stays_plainly(book, span))
                    self.assertIs(told, stays_plainly(book, span, back_ahead=True))
                if book.size <= 9:
                    other = other_way(book)
                    mates = [mate(book, span, side) for side in (0, 1)]
                    for found in mates:
                        self.assertIs(inner_fault(other, found) is None, told)
                    if told:
                        self.assertEqual(mates[0], mates[1])
                        self.assertIs(stays(other, mates[0]), True)
                if told:
                    self.check_left(book, span)
                else:
                    self.refused(BadStay, None, left_by, book, span)
                    self.refused(BadStay, None, leading_to_left, book, span)
                    self.refused(BadStay, None, together_fit, book, span, None)
        self.assertGreater(both[True], 100)
        self.assertGreater(both[False], 10)

    def test_all_inner_spans(self):
        both = {True: 0, False: 0}
        for name, book in spanned_books().items():
            for span in inner_spans(book):
                told = stays(book, span)
                both[told] += 1
                if book.size <= 6 or 1 < len(span) <= 3:
                    with self.subTest(name=name, span=span):
                        self.assertIs(told, stays_plainly(book, span))
        self.assertGreater(min(both.values()), 20)

    def check_left(self, book, span):
        prime = book.prime
        left = self.unchanged(left_by, book, moved_rows(span, prime) + list(span))
        self.assertIs(type(left), Splitbook)
        lost = lost_left(book, span)
        self.assertEqual(left.size * len(span), book.size)
        rows = leading_to_left(book, span)
        self.numbers_within(prime, rows, 2)
        self.assertIs(is_leading(book, left, rows), True)
        begun = [next(k for k, n in enumerate(row) if n) for row in lost]
        places = [k for k in range(book.size) if k not in begun]
        for k, place in enumerate(places):
            self.assertEqual(rows[place], samples.unit(left.size, k))
        for row in lost:
            self.assertEqual(plainly.lead(prime, rows, row), (0,) * left.size)
        self.assertEqual(plainly.rank(rows, prime), left.size)
        if book.size <= 9:
            across = tuple(zip(*rows))
            self.assertIs(is_leading(other_way(left), other_way(book), across), True)
            self.assertEqual(plainly.tidy(across, prime), mate(book, span, 0))

    def test_known(self):
        for name, book in samples.more_books().items():
            with self.subTest(name=name):
                things = list(samples.plain(book.size))
                self.assertIs(stays(book, things), True)
                self.assertIs(stays(book, [book.one]), True)
                self.assertEqual(left_by(book, [book.one]), book)
                self.assertEqual(leading_to_left(book, [book.one]), samples.plain(book.size))
                self.assertEqual(left_by(book, things).size, 1)
        six = group_book(5, samples.SIX)
        turn = next(k for k in range(6) if samples.SIX[k][samples.SIX[k][k]] == 0 and k)
        swap = next(k for k in range(6) if samples.SIX[k][k] == 0 and k)
        left = left_by(six, [samples.unit(6, 0), samples.unit(6, turn), samples.unit(6, samples.SIX[turn][turn])])
        self.assertTrue(are_alike(left, group_book(5, samples.cyclic(2))))
        span = [samples.unit(6, 0), samples.unit(6, swap)]
        self.assertIs(stays(six, span), False)
        self.refused(BadStay, None, left_by, six, span)
        # The factors g of a shift_book do not stay, those of a slip_book do.
        self.assertIs(stays(shift_book(5, 2, 4), [(1, 0, 0, 0), (0, 0, 1, 0)]), False)
        self.assertIs(stays(samples.books()["slip 2"], [(1, 0, 0, 0), (0, 0, 1, 0)]), True)


class FitTest(Case):

    def fitting(self):
        """(book, span that stays, inner span)."""
        found = []
        for name, book in spanned_books().items():
            spans = inner_spans(book)
            staying = [span for span in spans if stays(book, span)]
            pairs = [(one, other) for one in staying for other in spans]
            found += [(name, book, one, other) for one, other in pairs[::1 + len(pairs) // 12]]
        return found

    def test_fit(self):
        for name, book, one, other in self.fitting():
            prime = book.prime
            with self.subTest(name=name, one=one, other=other):
                left, rows = self.unchanged(together_fit, book, moved_rows(one, prime) + list(one), list(other))
                self.assertIs(type(left), Splitbook)
                self.numbers_within(prime, rows, 2)
                both = inner_by(book, list(one) + list(other))
                self.assertEqual(both, plainly.tidy(joined_rows(book, one, other), prime))
                shared = shared_span(book, one, other)
                self.assertEqual(len(both) * len(shared), len(one) * len(other))
                inside, around = inner_book(book, other), inner_book(book, both)
                self.assertEqual(left, left_by(inside, within(book, other, shared)))
                target = left_by(around, within(book, both, one))
                self.assertIs(is_leading(left, target, rows), True)
                self.assertEqual(plainly.rank(rows, prime), left.size)
                self.assertEqual(left.size, target.size)
                # What a thing of the second span becomes is led to what it becomes there.
                down = leading_to_left(inside, within(book, other, shared))
                there = leading_to_left(around, within(book, both, one))
                for k, thing in enumerate(other):
                    self.assertEqual(plainly.lead(prime, rows, down[k]),
                                     plainly.lead(prime, there, within(book, both, [thing])[0]))

    def test_left_of_what_is_left(self):
        """If K is within L, what L becomes stays in what K leaves, and leaves there what L leaves."""
        seen = 0
        for name, book in spanned_books().items():
            spans = [span for span in inner_spans(book) if stays(book, span)]
            for one in spans[1:-1][:3]:
                for other in spans:
                    if all(plainly.is_sum(row, other, book.prime) for row in one) and book.size <= 6:
                        left = left_by(book, one)
                        led = [plainly.lead(book.prime, leading_to_left(book, one), row) for row in other]
                        seen += len(one) < len(other) < book.size
                        with self.subTest(name=name):
                            self.assertIs(stays(left, led), True)
                            self.assertTrue(are_alike(left_by(left, led), left_by(book, other)))
        book = samples.families()["level"]
        spans = [span for span in inner_spans(book) if stays(book, span)]
        for one in spans:
            for other in spans:
                if len(one) < len(other) < 8 and all(plainly.is_sum(row, other, 2) for row in one):
                    left = left_by(book, one)
                    led = [plainly.lead(2, leading_to_left(book, one), row) for row in other]
                    seen += len(one) > 1
                    self.assertIs(stays(left, led), True)
                    self.assertTrue(are_alike(left_by(left, led), left_by(book, other)))
        self.assertGreater(seen, 2)

    def test_order_of_refusals(self):
        six = group_book(2, samples.SIX)
        swap = next(k for k in range(6) if samples.SIX[k][k] == 0 and k)
        pair = [samples.unit(6, 0), samples.unit(6, swap)]
        self.refused(BadRow, None, together_fit, six, None, None)
        self.refused(BadInner, ("one",), together_fit, six, [], None)
        self.refused(BadStay, None, together_fit, six, pair, None)
        self.refused(BadRow, None, together_fit, six, [six.one], None)
        self.refused(BadInner, ("one",), together_fit, six, [six.one], [])
        left, rows = together_fit(six, [six.one], pair)
        self.assertEqual((left, rows), (group_book(2, samples.cyclic(2)), ((1, 0), (0, 1))))
        # Not all of dense rows are sums of few of them.
        self.assertIsNotNone(inner_fault(six, dense.dense_rows(2, 6)[:2]))


if __name__ == "__main__":
    unittest.main()
