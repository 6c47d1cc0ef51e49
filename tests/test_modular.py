"""Sums of exponents modulo any number: how many choices have the sum 0."""

import itertools
import math
import unittest

from splitbooks.modular import Relations, shared_factor


class ModularTest(unittest.TestCase):

    def test_shared_factor(self):
        for one, other in itertools.product(range(1, 30), repeat=2):
            found, x, y = shared_factor(one, other)
            self.assertEqual(found, math.gcd(one, other))
            self.assertEqual(x * one + y * other, found)

    def test_choices(self):
        import random
        chance = random.Random(5)
        for modulus in (1, 2, 4, 6, 8, 12):
            for width in (1, 2, 3):
                for many in (0, 1, 2, 4):
                    rows = [[chance.choice([0, 1, -1, 2, 3, 4, 6, modulus]) for _ in range(width)] for _ in range(many)]
                    relations = Relations(modulus, width)
                    for row in rows:
                        relations.take(row)
                    wanted = sum(all(sum(a * b for a, b in zip(row, choice)) % modulus == 0 for row in rows)
                                 for choice in itertools.product(range(modulus), repeat=width))
                    self.assertEqual(relations.many_choices(), wanted, (modulus, rows))


if __name__ == "__main__":
    unittest.main()
