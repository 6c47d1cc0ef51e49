"""Point 40: selfsplit things."""

import itertools
import unittest

from splitbooks import errors
from splitbooks.bases import beside, in_basis, other_way
from splitbooks.doings import backed, counted, joined, split
from splitbooks.families import group_book, shift_book
from splitbooks.leadings import is_leading
from splitbooks.selfsplit import is_selfsplit, selfsplit_group, selfsplit_things
from tests import plainly, samples
from tests.helping import Case
from tests.samples import STRANGE


def all_selfsplit(book):
    """All selfsplit things, ascending, by trying each thing."""
    return [x for x in samples.all_rows(book.prime, book.size)
            if plainly.count(book.prime, book.counts, x) == 1
            and plainly.split(book.prime, book.splits, x) == plainly.pair(book.prime, x, x)]


def is_group(table):
    places = range(len(table))
    return (list(table[0]) == list(places) and [row[0] for row in table] == list(places)
            and all(sorted(row) == list(places) for row in table)
            and all(table[table[i][j]][k] == table[i][table[j][k]] for i in places for j in places for k in places))


class SelfsplitTest(Case):

    def all_books(self):
        return list(samples.books().items()) + list(samples.large_books().items())

    def test_all_of_few_things(self):
        for name, book in samples.books().items():
            if book.prime ** book.size > 3000:
                continue
            with self.subTest(name=name):
                wanted = all_selfsplit(book)
                found = selfsplit_things(book)
                self.assertEqual(found, [book.one] + [thing for thing in wanted if thing != book.one])
                for x in samples.all_rows(book.prime, book.size):
                    self.assertIs(is_selfsplit(book, x), x in wanted)

    def test_facts(self):
        for name, book in self.all_books():
            with self.subTest(name=name):
                prime = book.prime
                things = selfsplit_things(book)
                self.assertIs(type(things), list)
                self.assertEqual(things[0], book.one)
                self.assertEqual(things[1:], sorted(set(things[1:])))
                for x in things:
                    self.numbers_within(prime, x, 1)
                    self.assertEqual(counted(book, x), 1)
                    self.assertEqual(split(book, x), plainly.pair(prime, x, x))
                    self.assertIs(is_selfsplit(book, x), True)
                self.assertEqual(plainly.rank(things, prime), len(things))
                self.assertEqual(book.size % len(things), 0)
                table = selfsplit_group(book)
                self.numbers_within(len(things), table, 2)
                self.assertTrue(is_group(table))
                for i, x in enumerate(things):
                    for j, y in enumerate(things):
                        self.assertEqual(things[table[i][j]], joined(book, x, y))
                    self.assertEqual(backed(book, x), things[table[i].index(0)])
                self.assertTrue(is_leading(group_book(prime, table), book, things))

    def test_of_families(self):
        for name, book in samples.families().items():
            units = samples.plain(book.size)
            with self.subTest(name=name):
                if name.startswith(("one", "two", "three", "four", "six")):
                    wanted = set(units)
                elif name.startswith(("shift", "slip")):
                    order = int(book.size ** 0.5)
                    wanted = {units[a * order] for a in range(order)}
                else:
                    wanted = {units[0]}
                self.assertEqual(set(selfsplit_things(book)), wanted)
                rows = samples.some_basis(book.size, book.prime, 2)
                found = {plainly.lead(book.prime, rows, x) for x in selfsplit_things(in_basis(book, rows))}
                self.assertEqual(found, wanted)

    def test_of_large_books(self):
        many = {"sixteen over 97": 16, "sixteen over 2, other way": 1, "twelve over 2": 12, "eight over 2": 8,
                "quaternions over 3": 8, "shift 4 over 5": 4, "squares of two": 1, "brackets 13": 1, "slips": 4,
                "ten over 2": 10, "fourteen over 97, other basis": 14}
        for name, book in samples.large_books().items():
            with self.subTest(name=name):
                self.assertEqual(len(selfsplit_things(book)), many[name])
        # Of the other way of a group book they are the rows that keep products: of the group of
        # sixteen turns over 97 sixteen, of the quaternions over 3 four, of a group of twelve over 7 three.
        for table, prime, wanted in ((samples.cyclic(16), 97, 16), (samples.cyclic(16), 5, 4), (samples.cyclic(16), 3, 2),
                                     (samples.QUATERNIONS, 3, 4), (samples.TWELVE, 7, 3), (samples.TWELVE, 5, 1),
                                     (samples.EIGHT, 3, 4), (samples.EIGHT, 2, 1)):
            book = other_way(group_book(prime, table))
            found = selfsplit_things(book)
            self.assertEqual(len(found), wanted)
            made = in_basis(book, samples.some_basis(book.size, prime, 6))
            self.assertEqual(len(selfsplit_things(made)), wanted)

    def test_beside(self):
        books = samples.books()
        for one, other in (("two over 3, other basis", "shift 2 over 3, other way, other basis"),
                           ("shift 2 over 3", "two over 3, other way"), ("slip 2, other basis", "slip 2, other way"),
                           ("brackets 3, power 2", "three over 3, other basis")):
            one, other = books[one], books[other]
            wanted = {tuple(a * b % one.prime for a in x for b in y)
                      for x in selfsplit_things(one) for y in selfsplit_things(other)}
            self.assertEqual(set(selfsplit_things(beside(one, other))), wanted)

    def test_other_way_tells_products(self):
        for name, book in samples.books().items():
            prime = book.prime
            if prime ** book.size > 3000:
                continue
            wanted = []
            for row in samples.all_rows(prime, book.size):
                told = [[plainly.count(prime, row, line) for line in square] for square in book.joins]
                if plainly.count(prime, row, book.one) == 1 and told == [
                        [a * b % prime for b in row] for a in row]:
                    wanted.append(row)
            with self.subTest(name=name):
                self.assertEqual(sorted(selfsplit_things(other_way(book))), wanted)

    def test_by_hand(self):
        two = other_way(group_book(3, samples.cyclic(2)))
        self.assertEqual(selfsplit_things(two), [(1, 1), (1, 2)])
        self.assertEqual(selfsplit_group(two), ((0, 1), (1, 0)))
        self.assertEqual(selfsplit_things(other_way(group_book(2, samples.cyclic(2)))), [(1, 1)])
        shift = shift_book(3, 2, 2)
        self.assertEqual(selfsplit_things(shift), [(1, 0, 0, 0), (0, 0, 1, 0)])
        # One comes first, the others ascend.
        turned = in_basis(group_book(2, samples.cyclic(3)), [(0, 0, 1), (1, 0, 0), (0, 1, 0)])
        self.assertEqual(selfsplit_things(turned), [(0, 1, 0), (0, 0, 1), (1, 0, 0)])
        self.assertEqual(selfsplit_group(turned), ((0, 1, 2), (1, 2, 0), (2, 0, 1)))

    def test_any_value(self):
        book = shift_book(3, 2, 2)
        self.assertIs(is_selfsplit(book, (0, 0, 1, 0)), True)
        self.assertIs(self.unchanged(is_selfsplit, book, [3, -3, -2, 300]), True)
        self.assertIs(is_selfsplit(book, (0, 0, 0, 0)), False)
        self.assertIs(is_selfsplit(book, (0, 0, 2, 0)), False)
        self.assertIs(is_selfsplit(book, (1, 0, 1, 0)), False)
        self.assertIs(is_selfsplit(book, (0, 1, 0, 0)), False)
        for value in STRANGE + [(1, 0, 0), (1, 0, 0, 0, 0), [True, 0, 0, 0], (1, False, 0, 0), (1.0, 0, 0, 0),
                                ("1", 0, 0, 0), {0: 1, 1: 0, 2: 0, 3: 0}, range(4), [[1, 0, 0, 0]], 1, "1000"]:
            self.assertIs(is_selfsplit(book, value), False)

    def test_lists_may_be_changed(self):
        book = shift_book(3, 2, 2)
        found = selfsplit_things(book)
        found.append(1)
        found[0] = None
        self.assertEqual(selfsplit_things(book), [(1, 0, 0, 0), (0, 0, 1, 0)])
        self.assertEqual(selfsplit_group(book), ((0, 1), (1, 0)))

    def test_refusals(self):
        self.wants_books(is_selfsplit, 1, (1, 0))
        self.wants_books(selfsplit_things, 1)
        self.wants_books(selfsplit_group, 1)
        self.assertRaises(errors.BadBook, is_selfsplit, None, None)

    def test_same_group_in_all_bases(self):
        for table in (samples.SIX, samples.QUATERNIONS):
            book = group_book(5, table)
            made = in_basis(book, samples.some_basis(len(table), 5))
            found = selfsplit_group(made)
            orders = itertools.permutations(range(1, len(table)))
            self.assertTrue(any(
                all(order[table[i][j]] == found[order[i]][order[j]] for i in range(len(table)) for j in range(len(table)))
                for order in ((0,) + order for order in orders)))


if __name__ == "__main__":
    unittest.main()
