"""Points 52 and 53: how forms turn things, the back four times, and how often it takes to come round."""

import math
import unittest

from splitbooks.bases import other_way
from splitbooks.doings import backed, joined
from splitbooks.errors import BadForm
from splitbooks.families import group_book, shift_book, slip_book
from splitbooks.forms import row_form, shifted, swallowing_row
from splitbooks.fourths import back_order, fourth_by_leaders, leader_orders, rows_leader
from splitbooks.selfsplit import is_selfsplit, selfsplit_things
from splitbooks.swallowed import firsts_told, seconds_told, shift_row
from splitbooks.turners import form_turner, turner
from tests import plainly, samples
from tests.helping import Case
from tests.test_forms import all_books, pairs_to
from tests.test_swallowed import put, tell, times


def back_often(book, x, many):
    for _ in range(many):
        x = plainly.lead(book.prime, book.back, x)
    return x


class TurnersTest(Case):

    def test_turner(self):
        for name, book in all_books().items():
            prime = book.prime
            things = samples.plain(book.size)
            with self.subTest(name=name):
                rows = turner(book)
                self.numbers_within(prime, rows, 2)
                form = row_form(book, swallowing_row(book))
                for y, z in zip(things, rows):
                    for x in things:
                        self.assertEqual(pairs_to(prime, form, x, y), pairs_to(prime, form, z, x))
                    self.assertEqual(z, back_often(book, firsts_told(book, shift_row(book), y), 2))
                    self.assertEqual(sum(a * b for a, b in zip(z, book.counts)) % prime, tell(book, shift_row(book), y))
                    self.assertEqual(back_often(book, z, 2), plainly.lead(prime, rows, back_often(book, y, 2)))
                self.assertEqual(plainly.lead(prime, rows, book.one), book.one)
                if book.size <= 6:
                    for i, x in enumerate(things):
                        for j, y in enumerate(things):
                            self.assertEqual(plainly.lead(prime, rows, put(book, x, y)), put(book, rows[i], rows[j]))

    def test_form_turner(self):
        for name, book in samples.more_books().items():
            if book.size > 6:
                continue
            prime = book.prime
            rows = turner(book)
            with self.subTest(name=name):
                self.assertEqual(form_turner(book, row_form(book, swallowing_row(book))), rows)
                for t in selfsplit_things(book)[:3]:
                    # The back undoes a thing that splits into itself twice.
                    undone = backed(book, t)
                    form = row_form(book, shifted(book, t))
                    found = form_turner(book, form)
                    self.numbers_within(prime, found, 2)
                    for y, z in zip(samples.plain(book.size), found):
                        turned = plainly.lead(prime, rows, y)
                        self.assertEqual(z, joined(book, joined(book, undone, turned), t))
                        for x in samples.plain(book.size):
                            self.assertEqual(pairs_to(prime, form, x, y), pairs_to(prime, form, z, x))

    def test_refusals(self):
        book = group_book(3, samples.cyclic(2))
        for value in self.wrong_squares(2) + [[[1, 1], [1, 1]], [[1, 0], [0, 2]], [[True, False], [False, True]]]:
            self.refused(BadForm, None, form_turner, book, value)
        self.wants_books(form_turner, 1, [[1, 0], [0, 1]])
        self.wants_books(turner, 1)
        self.assertEqual(form_turner(book, [[4, -3], [0, -2]]), ((1, 0), (0, 1)))
        self.unchanged(form_turner, book, [[4, -3], [0, -2]])


class FourthsTest(Case):

    def test_rows_leader(self):
        for name, book in all_books().items():
            with self.subTest(name=name):
                f, g = swallowing_row(book), rows_leader(book)
                self.numbers_within(book.prime, g, 1)
                self.assertTrue(is_selfsplit(book, g))
                for x in samples.plain(book.size):
                    self.assertEqual(seconds_told(book, f, x), times(book.prime, tell(book, f, x), g))
                    self.assertEqual(tell(book, f, backed(book, x)), tell(book, f, put(book, g, x)))
                if book.size <= 6:
                    self.assertEqual(backed(book, g), shift_row(other_way(book)))

    def test_fourth(self):
        for name, book in all_books().items():
            with self.subTest(name=name):
                found = fourth_by_leaders(book)
                self.numbers_within(book.prime, found, 2)
                self.assertEqual(found, tuple(back_often(book, x, 4) for x in samples.plain(book.size)))
                if shift_row(book) == book.counts and rows_leader(book) == book.one:
                    self.assertEqual(found, samples.plain(book.size))

    def test_orders(self):
        for name, book in all_books().items():
            with self.subTest(name=name):
                many = back_order(book)
                self.assertIs(type(many), int)
                for less in range(1, many + 1):
                    same = all(back_often(book, x, less) == x for x in samples.plain(book.size))
                    self.assertIs(same, less == many)
                orders = leader_orders(book)
                self.assertIs(type(orders), tuple)
                self.assertEqual(len(orders), 2)
                self.assertTrue(many == 1 or many % 2 == 0)
                self.assertEqual(4 * math.lcm(*orders) % many, 0)
                for order in orders:
                    self.assertEqual(book.size % order, 0)
                g, row = rows_leader(book), book.one
                for less in range(1, orders[0] + 1):
                    row = put(book, row, g)
                    self.assertIs(row == book.one, less == orders[0])
                if book.size <= 6:
                    other = other_way(book)
                    row = other.one
                    for less in range(1, orders[1] + 1):
                        row = joined(other, row, shift_row(book))
                        self.assertIs(row == other.one, less == orders[1])

    def test_orders_of_families(self):
        for book, order in ((shift_book(3, 2, 2), 2), (shift_book(7, 3, 2), 3), (shift_book(97, 4, 22), 4),
                            (shift_book(5, 4, 2), 4), (slip_book(2), 2), (slip_book(3), 3)):
            self.assertEqual(leader_orders(book), (order, order))
            self.assertEqual(back_order(book), 2 * order)
        self.assertEqual(back_order(group_book(5, samples.cyclic(2))), 1)
        self.assertEqual(back_order(group_book(5, samples.SIX)), 2)
        self.assertEqual(leader_orders(group_book(5, samples.SIX)), (1, 1))

    def test_refusals(self):
        for function in (rows_leader, fourth_by_leaders, back_order, leader_orders):
            self.wants_books(function, 1)


if __name__ == "__main__":
    unittest.main()
