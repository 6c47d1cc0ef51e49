"""Point 10: the tidy list, and what else is worked out with rows."""

import itertools
import unittest

from splitbooks import linear, powers, stairs, values
from tests import plainly, samples
from tests.helping import Case
from tests.samples import STRANGE


class LinearTest(Case):

    def some_rows(self, prime, many, size, seed):
        return [tuple(number % prime for number in row[:size]) for row in samples.some_basis(max(many, size), prime, seed)][
            :many]

    def test_tidy_list_of_all_rows_over_two(self):
        rows = list(samples.all_rows(2, 3))
        for some in itertools.product(rows, repeat=3):
            found = linear.tidy_list(list(some), 2)
            self.assertEqual(found, plainly.tidy(some, 2))
            self.is_tidy(2, 3, found)
        self.assertEqual(linear.tidy_list([], 2), [])
        self.assertEqual(linear.tidy_list([(0, 0), (0, 0)], 5), [])

    def test_tidy_list_by_hand(self):
        self.assertEqual(linear.tidy_list([(0, 2, 1), (2, 1, 1)], 3), [(1, 0, 1), (0, 1, 2)])
        self.assertEqual(linear.tidy_list([(0, 0, 4), (0, 3, 3), (0, 1, 1)], 5), [(0, 1, 0), (0, 0, 1)])

    def test_tidy_list_and_kernel(self):
        for prime, many, size, seed in itertools.product((2, 3, 97), (1, 2, 4, 5), (1, 3, 6), (1, 2)):
            rows = self.some_rows(prime, many, size, seed)
            rows += [plainly.lead(prime, rows, [1] * many)]
            found = linear.tidy_list(rows, prime)
            self.assertEqual(found, plainly.tidy(rows, prime))
            kernel = stairs.kernel(rows, prime)
            self.is_tidy(prime, many + 1, kernel)
            self.assertEqual(len(kernel) + len(found), many + 1)
            for numbers in kernel:
                self.assertEqual(plainly.lead(prime, rows, numbers), (0,) * size)
            for row in rows:
                self.assertTrue(linear.is_sum_of(row, found, prime))
            for row in samples.plain(size):
                self.assertIs(linear.is_sum_of(row, found, prime), plainly.is_sum(row, rows, prime))

    def test_inverse(self):
        for prime, size in itertools.product((2, 3, 5, 97), (1, 2, 3, 7)):
            rows = [tuple(number % prime for number in row) for row in samples.some_basis(size, prime)]
            undone = linear.inverse(rows, prime)
            self.numbers_within(prime, undone, 2)
            self.assertEqual(tuple(plainly.lead(prime, undone, row) for row in rows), samples.plain(size))
        for square in itertools.product(samples.all_rows(2, 2), repeat=2):
            self.assertIs(linear.inverse(square, 2) is None, plainly.rank(square, 2) < 2)

    def test_numbers(self):
        for prime in (2, 3, 5, 7, 97):
            for number in range(1, prime):
                self.assertEqual(number * powers.number_undone(number, prime) % prime, 1)
            self.assertEqual(powers.power(prime + 1, 5, prime), 1)
            self.assertEqual(powers.power(-1, 3, prime), prime - 1)
            self.assertEqual(powers.power(0, 0, prime), 1)
        self.assertFalse(powers.is_power_above(2, 4, 16))
        self.assertTrue(powers.is_power_above(2, 5, 31))
        self.assertFalse(powers.is_power_above(97, 0, 1))
        self.assertTrue(powers.is_power_above(2, 10 ** 9, 16))


class ValuesTest(unittest.TestCase):

    def test_numbers(self):
        for value in (0, 1, -1, 10 ** 40):
            self.assertTrue(values.is_number(value))
            self.assertTrue(values.is_row([value, 0], 2))
        for value in STRANGE:
            self.assertFalse(values.is_number(value))
            self.assertFalse(values.is_prime(value))
            self.assertFalse(values.is_row([value], 1))
            self.assertFalse(values.is_row(value, 1))
            self.assertFalse(values.is_square(value, 1))
            self.assertFalse(values.is_cube(value, 1))
            self.assertFalse(values.is_map(value, 1, 1))

    def test_primes(self):
        wanted = [n for n in range(2, 98) if all(n % k for k in range(2, n))]
        self.assertEqual([n for n in range(-100, 200) if values.is_prime(n)], wanted)

    def test_lists_within_themselves(self):
        rows = []
        rows.append(rows)
        self.assertFalse(values.is_row(rows, 1))
        self.assertFalse(values.is_square(rows, 1))
        self.assertFalse(values.is_cube(rows, 1))


if __name__ == "__main__":
    unittest.main()
