"""Point 31: the families of groups, of shifts and of slips."""

import unittest

from splitbooks import errors
from splitbooks.bases import splits_turned
from splitbooks.books import Splitbook
from splitbooks.doings import back_undone, backed, counted, joined, joined_all, split
from splitbooks.families import group_book, shift_book, slip_book
from tests import plainly, samples
from tests.helping import Case
from tests.samples import STRANGE

PRIMES = [n for n in range(2, 98) if all(n % k for k in range(2, n))]
NO_PRIMES = STRANGE + [0, 1, 4, 9, 91, 98, 99, 101, 103, -2, -3, 10 ** 20, [2], "3", 2.0]


def order_of(root, prime):
    """The least exponent from 1 on whose power is 1; 0 if there is none."""
    power = 1
    for exponent in range(1, prime):
        power = power * root % prime
        if power == 1:
            return exponent
    return 0


class GroupBookTest(Case):

    def test_tables(self):
        tables = [[[0]], samples.cyclic(2), samples.FOUR, samples.SIX, samples.QUATERNIONS, samples.TWELVE,
                  samples.cyclic(16)]
        for table in tables:
            for prime in (2, 3, 97):
                book = self.unchanged(group_book, prime, table)
                size = len(table)
                self.assertIsInstance(book, Splitbook)
                self.assertEqual((book.prime, book.size), (prime, size))
                self.assertEqual(book.one, samples.unit(size, 0))
                self.assertEqual(book.counts, (1,) * size)
                for i in range(size):
                    self.assertEqual(book.splits[i], plainly.pair(prime, samples.unit(size, i), samples.unit(size, i)))
                    self.assertEqual(book.back[i], samples.unit(size, table[i].index(0)))
                    for j in range(size):
                        self.assertEqual(book.joins[i][j], samples.unit(size, table[i][j]))
                self.assertEqual(splits_turned(book), book)
                self.assertEqual(group_book(prime, tuple(tuple(row) for row in table)), book)

    def test_sizes_and_primes(self):
        for size in range(1, 17):
            self.assertEqual(group_book(5, samples.cyclic(size)).size, size)
        self.refused(errors.BadGroup, None, group_book, 5, samples.cyclic(17))
        for prime in PRIMES:
            self.assertEqual(group_book(prime, [[0]]).prime, prime)

    def test_what_is_no_group(self):
        for table in STRANGE + [
                [], (), 0, [0], [[1]], [[0, 1]], [[0, 1], [1]], [[0, 1], [1, 2]], [[0, 1], [1, -1]], [[0, 1], [1, 0, 0]],
                [[0, 1], [1, True]], [[False]], [[0, 1], [True, 0]], [[0, 1], [1, 0.0]], [[0, 1], [1, "0"]],
                [[0, 1], {0: 1, 1: 0}], [[0, 1], range(2)], [[0, 1], "10"], {0: [0]}, "0", [samples.cyclic(2)],
                # The unit is not 0; just from one side; no thing undoes thing 1; not to be grouped at will.
                [[1, 0], [0, 1]], [[0, 1], [0, 1]], [[0, 0], [1, 1]], [[0, 1], [1, 1]], [[0, 1, 2], [1, 1, 1], [2, 2, 2]],
                [[0, 1, 2], [1, 2, 0], [2, 0, 3]], [[0, 1, 2], [1, 2, 0], [2, 0, 4]], [[0, 1, 2], [1, 2, 0], [2, 0, -2]],
                [[0, 1, 2], [1, 0, 0], [2, 0, 0]], [[0, 1, 2], [1, 0, 1], [2, 1, 0]],
                [[0, 1, 2, 3, 4], [1, 0, 3, 4, 2], [2, 4, 0, 1, 3], [3, 2, 4, 0, 1], [4, 3, 1, 2, 0]]]:
            with self.subTest(table=repr(table) if not isinstance(table, samples.Odd) else None):
                self.refused(errors.BadGroup, None, group_book, 3, table)

    def test_each_entry_altered(self):
        for table in (samples.cyclic(4), samples.SIX):
            for i in range(len(table)):
                for j in range(len(table)):
                    for number in range(len(table)):
                        if number != table[i][j]:
                            altered = [list(row) for row in table]
                            altered[i][j] = number
                            self.refused(errors.BadGroup, None, group_book, 3, altered)

    def test_refusals(self):
        for prime in NO_PRIMES:
            self.refused(errors.BadPrime, None, group_book, prime, [[0]])
            self.refused(errors.BadPrime, None, group_book, prime, None)


class ShiftBookTest(Case):

    def test_by_its_rules(self):
        for prime, order, root in ((3, 2, 2), (5, 2, 4), (97, 2, 96), (7, 3, 2), (7, 3, 4), (13, 3, 3), (5, 4, 2),
                                   (5, 4, 3), (13, 4, 5)):
            with self.subTest(prime=prime, order=order, root=root):
                book = shift_book(prime, order, root)
                size = order * order
                self.assertEqual((book.prime, book.size), (prime, size))
                one, x, g = (samples.unit(size, place) for place in (0, 1, order))
                self.assertEqual(book.one, one)
                self.assertEqual(joined_all(book, [g] * order), one)
                self.assertEqual(joined_all(book, [x] * order), (0,) * size)
                self.assertEqual(joined(book, x, g), tuple(root * number % prime for number in joined(book, g, x)))
                self.assertEqual(split(book, g), plainly.pair(prime, g, g))
                pairs = zip(plainly.pair(prime, x, one), plainly.pair(prime, g, x))
                self.assertEqual(split(book, x), tuple(tuple(a + b for a, b in zip(r, s)) for r, s in pairs))
                self.assertEqual((counted(book, g), counted(book, x)), (1, 0))
                for a in range(order):
                    for b in range(order):
                        thing = joined_all(book, [g] * a + [x] * b)
                        self.assertEqual(thing, samples.unit(size, a * order + b))
                        self.assertEqual(book.counts[a * order + b], 1 if b == 0 else 0)

    def test_back(self):
        for prime, order, root in ((3, 2, 2), (5, 2, 4), (7, 3, 2), (13, 3, 9), (5, 4, 2), (13, 4, 8)):
            with self.subTest(prime=prime, order=order):
                book = shift_book(prime, order, root)
                size = order * order
                x, g = samples.unit(size, 1), samples.unit(size, order)
                undone = joined_all(book, [g] * (order - 1))
                self.assertEqual(backed(book, g), undone)
                self.assertEqual(backed(book, x), tuple(-number % prime for number in joined(book, undone, x)))
                rows, times = book.back, 1
                while rows != samples.plain(size):
                    rows = tuple(plainly.lead(prime, book.back, row) for row in rows)
                    times += 1
                self.assertEqual(times, 2 * order)
                self.assertNotEqual(back_undone(book), book.back)

    def test_just_these_roots(self):
        for prime in PRIMES[:8] + [97]:
            for order in (2, 3, 4):
                roots = [root for root in range(-prime, 2 * prime) if prime < 20 or root % 7 == 0]
                for root in roots:
                    if order_of(root % prime, prime) == order:
                        if prime < 8 and order < 4:
                            self.assertEqual(shift_book(prime, order, root), shift_book(prime, order, root % prime))
                    else:
                        self.refused(errors.BadNumber, "root", shift_book, prime, order, root)

    def test_numbers_beyond_the_prime(self):
        self.assertEqual(shift_book(3, 2, -1), shift_book(3, 2, 2))
        self.assertEqual(shift_book(7, 3, 2 - 7 * 10 ** 20), shift_book(7, 3, 2))
        self.assertEqual(shift_book(5, 4, 12), shift_book(5, 4, 2))

    def test_refusals(self):
        for prime in NO_PRIMES:
            self.refused(errors.BadPrime, None, shift_book, prime, 2, 2)
            self.refused(errors.BadPrime, None, shift_book, prime, None, None)
        for order in STRANGE + [-2, 0, 1, 5, 6, 10 ** 20, [2], 2.0]:
            self.refused(errors.BadNumber, "order", shift_book, 3, order, 2)
            self.refused(errors.BadNumber, "order", shift_book, 3, order, None)
        for root in STRANGE + [0, 1, 3, 4, -2, -3, [2], "2", 2.0]:
            self.refused(errors.BadNumber, "root", shift_book, 3, 2, root)
        for root in range(4):
            for order in (2, 3, 4):
                self.refused(errors.BadNumber, "root", shift_book, 2, order, root)
        self.refused(errors.BadNumber, "root", shift_book, 5, 4, 4)
        self.refused(errors.BadNumber, "root", shift_book, 5, 2, 1)


class SlipBookTest(Case):

    def test_by_its_rules(self):
        for prime in (2, 3):
            book = slip_book(prime)
            size = prime * prime
            self.assertEqual((book.prime, book.size), (prime, size))
            one, x, g = (samples.unit(size, place) for place in (0, 1, prime))
            self.assertEqual(book.one, one)
            self.assertEqual(joined_all(book, [g] * prime), one)
            self.assertEqual(joined_all(book, [x] * prime), x)
            wanted = [a + b - c for a, b, c in zip(joined(book, g, x), g, joined(book, g, g))]
            self.assertEqual(joined(book, x, g), tuple(number % prime for number in wanted))
            self.assertEqual(split(book, g), plainly.pair(prime, g, g))
            pairs = zip(plainly.pair(prime, x, one), plainly.pair(prime, g, x))
            self.assertEqual(split(book, x), tuple(tuple(a + b for a, b in zip(r, s)) for r, s in pairs))
            for a in range(prime):
                for b in range(prime):
                    self.assertEqual(joined_all(book, [g] * a + [x] * b), samples.unit(size, a * prime + b))
                    self.assertEqual(book.counts[a * prime + b], 1 if b == 0 else 0)

    def test_refusals(self):
        for prime in NO_PRIMES:
            self.refused(errors.BadPrime, None, slip_book, prime)
        for prime in PRIMES[2:]:
            self.refused(errors.BadNumber, "prime", slip_book, prime)


if __name__ == "__main__":
    unittest.main()
