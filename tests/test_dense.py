"""Points 11, 20, 21 in books of many things in dense bases: faults at the last places; the time that is taken."""

import time
import unittest

from splitbooks import errors
from splitbooks.bases import beside, in_basis, joins_turned, other_way, splits_turned
from splitbooks.betweens import betweens, layers
from splitbooks.books import Splitbook, what_is_wrong
from splitbooks.brackets import bracket_book
from splitbooks.doings import back_undone, convolved, convolved_back, unit_map
from splitbooks.evens import even_leading
from splitbooks.fading import fading_steps, tracing_rows
from splitbooks.families import group_book, shift_book, slip_book
from splitbooks.forms import back_by_form
from splitbooks.fourths import fourth_by_leaders, leader_orders
from splitbooks.kinds import simple_kinds, simple_leads
from splitbooks.leadings import is_leading
from splitbooks.numbers import beside_numbers, hull_numbers, kind_things, turned_kinds
from splitbooks.selfsplit import selfsplit_group, selfsplit_things
from splitbooks.simples import falls_apart_both_ways, parting_square, walls_of
from splitbooks.swallowed import shift_row, swallowed_left
from splitbooks.turners import turner
from tests import dense, plainly, samples
from tests.helping import Case

PRIME = 97
ROWS = dense.dense_rows(PRIME)


class AnswersTest(Case):

    @classmethod
    def setUpClass(cls):
        cls.group = group_book(PRIME, samples.cyclic(16))
        cls.dense = in_basis(cls.group, ROWS)

    def test_in_basis(self):
        tables = dense.in_rows(samples.tables(self.group), ROWS)
        self.assertEqual(samples.tables(self.dense), tables)
        self.assertIsNone(what_is_wrong(*tables))
        back = [plainly.lead(PRIME, self.group.back, row) for row in ROWS]
        self.assertEqual([plainly.lead(PRIME, ROWS, row) for row in self.dense.back], back)

    def test_turned_and_other_way(self):
        joins, splits = self.dense.joins, self.dense.splits
        turned = joins_turned(self.dense)
        self.assertEqual(turned.joins, tuple(zip(*joins)))
        self.assertEqual(splits_turned(self.dense).splits, tuple(tuple(zip(*square)) for square in splits))
        other = other_way(self.dense)
        places = range(16)
        self.assertEqual(other.joins, tuple(tuple(tuple(splits[k][i][j] for k in places) for j in places) for i in places))
        self.assertEqual(other.splits, tuple(tuple(tuple(joins[j][k][i] for k in places) for j in places) for i in places))
        self.assertEqual(other.back, tuple(zip(*self.dense.back)))

    def test_selfsplit_things_and_layers(self):
        things = selfsplit_things(self.dense)
        undone = dense.undone(ROWS, PRIME)
        wanted = [plainly.lead(PRIME, undone, unit) for unit in samples.plain(16)]
        self.assertEqual(things, wanted[:1] + sorted(wanted[1:]))
        self.assertEqual(layers(self.dense), [list(samples.plain(16))])
        self.assertEqual(layers(self.group), [list(samples.plain(16))])
        place = [wanted.index(thing) for thing in things]
        self.assertEqual(selfsplit_group(self.dense),
                         tuple(tuple(place.index((i + j) % 16) for j in place) for i in place))
        less = [(a - b) % PRIME for a, b in zip(things[0], things[1])]
        self.assertEqual(betweens(self.dense, things[0], things[1]), plainly.tidy([less], PRIME))

    def test_families_of_sixteen(self):
        zero = [[[0] * 4] * 4] * 4
        four = group_book(PRIME, samples.cyclic(4))
        for book in (bracket_book(2, zero, [[0] * 4] * 4), shift_book(PRIME, 4, 22), beside(four, four)):
            self.assertEqual(book.size, 16)
            prime, joins, _, splits, _ = samples.tables(book)
            self.assertIsNone(dense.least_joins_fault(prime, joins))
            self.assertIsNone(dense.least_splits_fault(prime, splits))
            for i, j in ((0, 15), (5, 1), (15, 15), (7, 9), (1, 4)):
                self.assertTrue(dense.go_together(prime, joins, splits, i, j))
            rows = dense.dense_rows(prime)
            self.assertEqual(samples.tables(in_basis(book, rows)), dense.in_rows(samples.tables(book), rows))

    def test_convolved_back(self):
        undone = dense.undone(ROWS, PRIME)
        # Thing k of the group led to k + 3 times itself.
        several = [[(k + 3) * number for number in row] for k, row in enumerate(undone)]
        several = [plainly.lead(PRIME, several, row) for row in ROWS]
        for first in (samples.plain(16), self.dense.back, several):
            back = convolved_back(self.dense, self.dense, first)
            self.assertIsNotNone(back)
            wanted = unit_map(self.dense, self.dense)
            self.assertEqual(convolved(self.dense, self.dense, first, back), wanted)
            self.assertEqual(convolved(self.dense, self.dense, back, first), wanted)
        self.assertIsNone(convolved_back(self.dense, self.dense, [[0] * 16] * 16))


class LastFaultsTest(Case):

    def told(self, part, tables):
        self.assertEqual(what_is_wrong(*tables), part)
        self.refused(errors.BadBook, part, Splitbook, *tables)

    def test_joins(self):
        for prime in (2, 97):
            tables = dense.in_rows(dense.wrong_joins(prime), dense.last_apart(prime))
            self.assertEqual(dense.least_joins_fault(prime, tables[1]), ("joins", 15, 15, 15))
            self.told(("joins", 15, 15, 15), tables)

    def test_one(self):
        for prime in (2, 97):
            tables = dense.in_rows(dense.wrong_one(prime), dense.last_apart(prime))
            self.assertEqual(dense.least_one_fault(prime, tables[1], tables[2]), ("one", 15))
            self.told(("one", 15), tables)

    def test_splits(self):
        for prime in (2, 97):
            tables = dense.in_rows(dense.wrong_splits(prime), dense.last_apart(prime))
            self.assertEqual(dense.least_splits_fault(prime, tables[3]), ("splits", 15))
            self.told(("splits", 15), tables)

    def test_counts(self):
        for prime in (2, 97):
            tables = dense.in_rows(dense.wrong_counts(prime), dense.last_apart(prime))
            self.assertIsNone(dense.least_splits_fault(prime, tables[3]))
            self.assertEqual(dense.least_counts_fault(prime, tables[3], tables[4]), ("counts", 15))
            self.told(("counts", 15), tables)

    def test_both(self):
        self.told(("both",), dense.in_rows(dense.wrong_one_split(97), ROWS))
        tables = list(samples.tables(in_basis(group_book(97, samples.cyclic(16)), ROWS)))
        tables[4] = [0] * 16
        self.assertEqual(what_is_wrong(*tables), ("counts", 0))
        for prime in (3, 97):
            tables = dense.in_rows(dense.wrong_both(prime), dense.even_at_end(prime))
            self.assertIsNone(dense.least_splits_fault(prime, tables[3]))
            self.assertIsNone(dense.least_counts_fault(prime, tables[3], tables[4]))
            for i, j in ((0, 0), (15, 0), (0, 15), (15, 14), (14, 15), (7, 8)):
                self.assertTrue(dense.go_together(prime, tables[1], tables[3], i, j))
            self.assertFalse(dense.go_together(prime, tables[1], tables[3], 15, 15))
            self.told(("both", 15, 15), tables)

    def test_back(self):
        for prime in (2, 97):
            tables = dense.in_rows(dense.wrong_back(prime), dense.dense_rows(prime))
            self.assertIsNone(dense.least_joins_fault(prime, tables[1]))
            self.assertTrue(dense.go_together(prime, tables[1], tables[3], 3, 4))
            self.told(("back",), tables)


class TimeTest(unittest.TestCase):
    """With much room: on a usual machine each takes less than a tenth of what it may take here."""

    def within(self, seconds, function, *args):
        start = time.process_time()
        for _ in range(10):
            function(*args)
        self.assertLess(time.process_time() - start, seconds)

    def test_dense(self):
        group = group_book(PRIME, samples.cyclic(16))
        book = in_basis(group, ROWS)
        self.within(10, in_basis, group, ROWS)
        self.within(10, what_is_wrong, *samples.tables(book))
        self.within(10, joins_turned, book)
        self.within(10, other_way, book)
        self.within(5, layers, book)
        self.within(5, layers, group)
        self.within(5, selfsplit_things, book)
        self.within(5, selfsplit_group, book)
        self.within(5, convolved_back, book, book, samples.plain(16))
        self.within(5, is_leading, book, book, samples.plain(16))
        self.within(5, back_undone, book)

    def test_parts_and_forms(self):
        for book in (shift_book(7, 3, 2), group_book(19, samples.cyclic(9)), group_book(97, samples.TWELVE)):
            book = in_basis(book, samples.some_basis(book.size, book.prime))
            for function in (swallowed_left, shift_row, even_leading, back_by_form, turner, fourth_by_leaders,
                             leader_orders, fading_steps, tracing_rows, parting_square, falls_apart_both_ways, walls_of,
                             simple_leads, simple_kinds, kind_things, hull_numbers, beside_numbers, turned_kinds):
                with self.subTest(size=book.size, function=function.__name__):
                    self.within(5, function, book)

    def test_faults(self):
        for tables in (dense.in_rows(dense.wrong_joins(97), dense.last_apart(97)),
                       dense.in_rows(dense.wrong_splits(97), dense.last_apart(97)),
                       dense.in_rows(dense.wrong_both(97), dense.even_at_end(97)),
                       dense.in_rows(dense.wrong_back(97), ROWS)):
            self.within(10, what_is_wrong, *tables)

    def test_families(self):
        four = group_book(PRIME, samples.cyclic(4))
        self.within(2, group_book, PRIME, samples.cyclic(16))
        self.within(2, bracket_book, 2, [[[0] * 4] * 4] * 4, [[0] * 4] * 4)
        self.within(2, shift_book, PRIME, 4, 22)
        self.within(2, slip_book, 3)
        self.within(2, beside, four, four)
        self.within(1, in_basis, shift_book(7, 3, 2), samples.some_basis(9, 7))


if __name__ == "__main__":
    unittest.main()
