"""Point 122: likenesses to themselves, and how many splitbooks of few things there are."""

import itertools
import unittest

from splitbooks.bases import in_basis
from splitbooks.books import what_is_wrong
from splitbooks.errors import BadNumber, BadPrime
from splitbooks.families import group_book, shift_book, slip_book
from splitbooks.fewbooks import few_books
from splitbooks.fewcounts import few_counts, self_likenesses
from splitbooks.leadings import is_leading, leadings_between
from splitbooks.values import PRIMES
from tests import plainly, samples
from tests.helping import Case
from tests.test_fewbooks import kept_books, sizes


def many_plainly(book):
    """The number of likenesses of a book to itself, all leadings being tried."""
    return sum(plainly.rank(rows, book.prime) == book.size for rows in leadings_between(book, book))


def units_joined(prime, size):
    """All (joins, one), as tuples of numbers, that may be grouped at will and have one."""
    found = []
    places = range(size)
    for numbers in samples.all_rows(prime, size ** 3):
        joins = [[numbers[(i * size + j) * size:(i * size + j + 1) * size] for j in places] for i in places]
        things = samples.plain(size)
        if all(plainly.join(prime, joins, plainly.join(prime, joins, x, y), z)
               == plainly.join(prime, joins, x, plainly.join(prime, joins, y, z))
               for x in things for y in things for z in things):
            for one in samples.all_rows(prime, size):
                if all(plainly.join(prime, joins, one, x) == x == plainly.join(prime, joins, x, one) for x in things):
                    found.append((joins, one))
    return found


class FewCountsTest(Case):

    def test_self_likenesses(self):
        for prime in (2, 3, 5, 7, 97):
            for size in sizes(prime):
                for at, first in enumerate(kept_books(prime, size)):
                    for book in (first, in_basis(first, samples.some_basis(size, prime, 3))):
                        found = self.unchanged(self_likenesses, book)
                        self.assertIs(type(found), int)
                        if prime ** ((size - 1) ** 2) <= 20000:
                            self.assertEqual(found, many_plainly(book))
                        if size < 4:
                            self.assertEqual(found, (0, 1, 1, 2)[size])

    def test_of_four(self):
        for prime in PRIMES[1:]:
            told = sorted(self_likenesses(book) for book in kept_books(prime, 4))
            self.assertEqual(told, sorted([prime - 1, 2, 2, 6, 2, 3]))
            self.assertEqual(self_likenesses(shift_book(prime, 2, prime - 1)), prime - 1)
            self.assertEqual(self_likenesses(group_book(prime, samples.cyclic(4))), 2)
            self.assertEqual(self_likenesses(group_book(prime, samples.FOUR)), 6)
        book = shift_book(5, 2, 4)
        scaled = [[1, 0, 0, 0], [0, 3, 0, 0], [0, 0, 1, 0], [0, 0, 0, 3]]
        self.assertIs(is_leading(book, book, scaled), True)

    def test_counts(self):
        for prime in PRIMES:
            for size in sizes(prime):
                bases = 1
                for k in range(size):
                    bases *= prime ** size - prime ** k
                found = few_counts(prime, size)
                self.assertIs(type(found), int)
                wanted = 0
                for book in kept_books(prime, size):
                    self.assertEqual(bases % self_likenesses(book), 0)
                    wanted += bases // self_likenesses(book)
                self.assertEqual(found, wanted)
            self.assertEqual(few_counts(prime, 1), prime - 1)
        self.assertEqual(few_counts(2, 2), 18)

    def test_counted_one_by_one(self):
        for prime in (2, 3, 5, 7):
            many = sum(what_is_wrong(prime, [[[a]]], [b], [[[c]]], [d]) is None
                       for a, b, c, d in itertools.product(range(prime), repeat=4))
            self.assertEqual(few_counts(prime, 1), many)

    def test_counted_of_two_things(self):
        """Over 2 and 3: what joins well, and what splits well, each with each."""
        for prime in (2, 3):
            joined = units_joined(prime, 2)
            # Splits are, read the other way, joins: joins[i][j][k] there is splits[k][i][j].
            many = 0
            for joins, one in joined:
                for rows, counts in joined:
                    splits = [[[rows[j][k][i] for k in range(2)] for j in range(2)] for i in range(2)]
                    if sum(a * b for a, b in zip(one, counts)) % prime == 1:
                        many += what_is_wrong(prime, joins, one, splits, counts) is None
            self.assertEqual(few_counts(prime, 2), many)

    def test_counted_of_three_things(self):
        """Over 2 and 3, with thing 0 as one and counts that tell of it alone: all other choices are as many."""
        for prime in (2, 3):
            cubes = [self.beyond_one(numbers) for numbers in samples.all_rows(prime, 8) if self.may_be_grouped(numbers, prime)]
            many = 0
            for joins in cubes:
                for rows in cubes:
                    splits = [[[rows[j][k][i] for k in range(3)] for j in range(3)] for i in range(3)]
                    many += what_is_wrong(prime, joins, (1, 0, 0), splits, (1, 0, 0)) is None
            # One is any thing but 0, and its count is 1.
            self.assertEqual(few_counts(prime, 3), many * (prime ** 3 - 1) * prime ** 2)

    def may_be_grouped(self, numbers, prime):
        """Whether two things that are joined to sums of themselves may be grouped at will."""
        cube = [[numbers[0:2], numbers[2:4]], [numbers[4:6], numbers[6:8]]]
        return all(plainly.join(prime, cube, cube[i][j], samples.unit(2, k))
                   == plainly.join(prime, cube, samples.unit(2, i), cube[j][k])
                   for i in range(2) for j in range(2) for k in range(2))

    def beyond_one(self, numbers):
        """The joins of thing 0 as one and of two further things."""
        return [[samples.unit(3, i + j) if i * j == 0 else (0,) + tuple(numbers[4 * i + 2 * j - 6:4 * i + 2 * j - 4])
                 for j in range(3)] for i in range(3)]

    def test_refused(self):
        self.wants_books(self_likenesses, 1)
        for book in (group_book(2, samples.cyclic(4)), slip_book(2), group_book(3, samples.cyclic(5))):
            self.refused(BadNumber, "size", self_likenesses, book)
        for value in samples.STRANGE + [0, 1, 4, 9, 101]:
            self.refused(BadPrime, None, few_counts, value, None)
        for value in samples.STRANGE + [0, 5, -1, 3.0, "2"]:
            self.refused(BadNumber, "size", few_counts, 3, value)
        self.refused(BadNumber, "size", few_counts, 2, 4)
        self.assertEqual(len(few_books(2, 3)), 2)


if __name__ == "__main__":
    unittest.main()
