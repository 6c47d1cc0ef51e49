"""The second part of point 63, and point 65: simple leads and their kinds."""

import itertools
import unittest

from splitbooks.bases import other_way
from splitbooks.fading import fading_things, tracing_rows
from splitbooks.families import group_book, shift_book, slip_book
from splitbooks.kinds import simple_kinds, simple_leads
from tests import plainly, samples
from tests.helping import Case
from tests.test_forms import all_books
from tests.test_swallowed import put


def square_of(prime, leads, thing):
    """How a thing leads rows."""
    places = range(len(leads[0]))
    return [[sum(number * square[g][h] for number, square in zip(thing, leads) if number) % prime for h in places]
            for g in places]


def put_squares(prime, first, second):
    places = range(len(first))
    return [[sum(first[g][y] * second[y][h] for y in places) % prime for h in places] for g in places]


def reached(prime, leads, row):
    """The tidy list of all that leads make of a row."""
    found = plainly.tidy([row], prime)
    while True:
        more = plainly.tidy(found + [plainly.lead(prime, square, x) for x in found for square in leads], prime)
        if len(more) == len(found):
            return found
        found = more


def maps_along(prime, leads):
    """The number of independent maps m with: led and then by m is by m and then led."""
    size = len(leads[0])
    unknown = size * size
    equations = []
    for square in leads:
        for g in range(size):
            for h in range(size):
                row = [0] * unknown
                for y in range(size):
                    row[y * size + h] += square[g][y]
                    row[g * size + y] -= square[y][h]
                equations.append([number % prime for number in row])
    return unknown - plainly.rank(equations, prime)


def undone_in(table, x):
    return next(y for y in range(len(table)) if table[x][y] == 0)


def power_in(table, x, many):
    found = 0
    for _ in range(many):
        found = table[found][x]
    return found


def rounds_of_classes(prime, table):
    """The lengths of the rounds of the classes of things of an order prime to the prime, as the prime power moves them."""
    size = len(table)
    regular = [x for x in range(size) if any(many % prime and power_in(table, x, many) == 0
                                             for many in range(1, size + 1))]
    classes = sorted({tuple(sorted({table[table[undone_in(table, g)][x]][g] for g in range(size)})) for x in regular})
    lengths = []
    left = list(classes)
    while left:
        start = at = left[0]
        many = 0
        while at in left:
            left.remove(at)
            many += 1
            power = power_in(table, at[0], prime)
            at = next(one for one in classes if power in one)
        assert at == start
        lengths.append(many)
    return sorted(lengths)


class KindsTest(Case):

    def test_leads(self):
        for name, book in all_books().items():
            prime, size = book.prime, book.size
            with self.subTest(name=name):
                kinds, leads = simple_kinds(book), simple_leads(book)
                self.assertEqual((type(kinds), type(leads), len(kinds)), (list, list, len(leads)))
                for kind, some in zip(kinds, leads):
                    self.numbers_within(prime, some, 3)
                    many = len(some[0])
                    self.assertEqual([len(some)] + [len(square) for square in some], [size] + [many] * size)
                    self.assertEqual(square_of(prime, some, book.one), [list(row) for row in samples.plain(many)])
                    self.assertEqual(kind[0], many)
                    self.assertEqual(kind[2], tuple(sum(square[g][g] for g in range(many)) % prime for square in some))
                    if size <= 9:
                        for i, j in itertools.product(range(size), repeat=2):
                            # Joined things lead as the second and then the first does.
                            self.assertEqual(square_of(prime, some, book.joins[i][j]),
                                             put_squares(prime, some[j], some[i]))
                    if many <= 4:
                        self.assertEqual(maps_along(prime, some), kind[1])
                    if prime ** many < 3000:
                        for row in samples.all_rows(prime, many):
                            if any(row):
                                self.assertEqual(len(reached(prime, some, row)), many)
                                if size > 9:
                                    break

    def test_kinds(self):
        beyond_one = 0
        for name, book in all_books().items():
            prime, size = book.prime, book.size
            with self.subTest(name=name):
                kinds = simple_kinds(book)
                self.assertEqual(kinds, sorted(kinds))
                for kind in kinds:
                    self.assertEqual([type(part) for part in kind], [int, int, tuple])
                    self.assertEqual(kind[0] % kind[1], 0)
                    beyond_one += kind[1] > 1
                rows = [row for _, _, row in kinds]
                self.assertEqual(plainly.rank(rows, prime), len(rows))
                self.assertEqual(plainly.tidy(rows, prime), tracing_rows(book))
                self.assertEqual(sum(many * many // degree for many, degree, _ in kinds) + len(fading_things(book)), size)
                self.assertIn((1, 1, book.counts), kinds)
        self.assertGreater(beyond_one, 5)

    def test_groups(self):
        tables = [[[0]], samples.cyclic(2), samples.cyclic(3), samples.cyclic(4), samples.cyclic(5), samples.cyclic(7),
                  samples.cyclic(9), samples.FOUR, samples.SIX, samples.EIGHT, samples.QUATERNIONS, samples.TWELVE,
                  samples.cyclic(13), samples.cyclic(15), samples.TEN, samples.FOURTEEN,
                  samples.beside_groups(samples.QUATERNIONS, samples.cyclic(2))]
        for table, prime in itertools.product(tables, (2, 3, 5, 7, 97)):
            with self.subTest(size=len(table), prime=prime):
                kinds = simple_kinds(group_book(prime, table))
                self.assertEqual(sorted(degree for _, degree, _ in kinds), rounds_of_classes(prime, table))
                for many, degree, _ in kinds:
                    self.assertEqual(len(table) % (many // degree), 0)

    def test_other_families(self):
        for table, prime in itertools.product((samples.cyclic(4), samples.SIX, samples.EIGHT), (2, 3, 97)):
            book = other_way(group_book(prime, table))
            wanted = sorted((1, 1, thing) for thing in samples.plain(len(table)))
            self.assertEqual(simple_kinds(book), wanted)
            self.assertEqual(fading_things(book), [])
        for book, order in ((shift_book(3, 2, 2), 2), (shift_book(7, 3, 2), 3), (shift_book(5, 4, 2), 4),
                            (shift_book(97, 4, 22), 4), (slip_book(2), 2), (slip_book(3), 3)):
            kinds = simple_kinds(book)
            self.assertEqual([kind[:2] for kind in kinds], [(1, 1)] * order)
            for _, _, row in kinds:
                for i, j in itertools.product(range(book.size), repeat=2):
                    told = sum(a * b for a, b in zip(row, put(book, *[samples.unit(book.size, k) for k in (i, j)])))
                    self.assertEqual(told % book.prime, row[i] * row[j] % book.prime)

    def test_by_hand(self):
        book = group_book(2, samples.cyclic(3))
        self.assertEqual(simple_kinds(book), [(1, 1, (1, 1, 1)), (2, 2, (0, 1, 1))])

    def test_refusals_and_lists(self):
        for function in (simple_kinds, simple_leads):
            self.wants_books(function, 1)
            self.keeps_lists(function, group_book(2, samples.cyclic(3)))
        for book in samples.more_books().values():
            self.assertEqual(simple_leads(book), simple_leads(book))


if __name__ == "__main__":
    unittest.main()
