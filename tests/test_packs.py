"""Rows kept side by side in one number, against the numbers themselves."""

import random
import unittest

from splitbooks.packs import Comparer, Fields, total, wide_enough


class PacksTest(unittest.TestCase):

    def test_against_the_numbers(self):
        chance = random.Random(3)
        for _ in range(3000):
            prime = chance.choice([2, 3, 5, 7, 53, 97])
            many = chance.randrange(1, 20)
            most = chance.choice([0, 1, 5, 97, 10000, chance.randrange(10 ** 6)])
            fields = Fields(prime, many, wide_enough(prime, most))
            comparer = Comparer(fields, most)
            one = [chance.randrange(most + 1) for _ in range(many)]
            other = [min(max(x + prime * chance.randrange(-5, 6), 0), most) for x in one]
            if chance.random() < 0.5:
                other[chance.randrange(many)] = chance.randrange(most + 1)
            first, second = [sum(x << shift for x, shift in zip(row, fields.shifts)) for row in (one, other)]
            unlike = [k for k in range(many) if (one[k] - other[k]) % prime]
            self.assertIs(comparer.are_alike(first, second), not unlike)
            self.assertEqual(comparer.first_unlike(first, second), unlike[0] if unlike else None)
            self.assertEqual(fields.unpacked(first), tuple(x % prime for x in one))
            found = [k for k in range(many) if one[k] % prime]
            self.assertEqual(fields.first_place(first), found[0] if found else None)
            self.assertEqual(fields.number_at(first, many - 1), one[-1] % prime)

    def test_sums(self):
        chance = random.Random(4)
        for prime in (2, 7, 97):
            rows = [[chance.randrange(prime) for _ in range(9)] for _ in range(12)]
            numbers = [chance.randrange(prime) for _ in range(12)]
            fields = Fields(prime, 9, 12 * prime ** 2)
            pack = total(numbers, [fields.packed(row) for row in rows])
            wanted = tuple(sum(n * row[k] for n, row in zip(numbers, rows)) % prime for k in range(9))
            self.assertEqual(fields.unpacked(pack), wanted)
            wide = Fields(prime, 27, 12 * prime ** 2)
            self.assertEqual(wide.unpacked(wide.spread(rows[0], 3))[2::3], tuple(rows[0]))


if __name__ == "__main__":
    unittest.main()
