"""Point 31: the family of brackets and powers."""

import itertools
import unittest

from splitbooks import errors
from splitbooks.bases import splits_turned
from splitbooks.books import Splitbook
from splitbooks.brackets import bracket_book
from splitbooks.doings import backed, counted, joined, joined_all, split
from tests import plainly, samples
from tests.helping import Case
from tests.samples import STRANGE

PRIMES = [n for n in range(2, 98) if all(n % k for k in range(2, n))]


def is_fit(prime, brackets, powers):
    """What bracket_book has to tell: None, or the part of its error; by all rows, not by things alone."""
    size = len(brackets)

    def put(x, y):
        return plainly.join(prime, brackets, x, y)

    rows = list(samples.all_rows(prime, size))
    if any(any(put(x, x)) for x in rows):
        return "brackets"
    for x, y, z in itertools.product(rows, repeat=3):
        if any((a + b + c) % prime for a, b, c in zip(put(x, put(y, z)), put(y, put(z, x)), put(z, put(x, y)))):
            return "brackets"
    for i in range(size):
        for y in rows:
            led = y
            for _ in range(prime):
                led = put(samples.unit(size, i), led)
            if led != put(powers[i], y):
                return "powers"
    return None


class BracketBookTest(Case):

    def by_rules(self, prime, brackets, powers):
        book = self.unchanged(bracket_book, prime, brackets, powers)
        many = len(brackets)
        size = prime ** many
        self.assertIsInstance(book, Splitbook)
        self.assertEqual((book.prime, book.size, book.one), (prime, size, samples.unit(size, 0)))
        things = [samples.unit(size, prime ** k) for k in range(many)]
        for i, x in enumerate(things):
            pairs = zip(plainly.pair(prime, x, book.one), plainly.pair(prime, book.one, x))
            self.assertEqual(split(book, x), tuple(tuple(a + b for a, b in zip(r, s)) for r, s in pairs))
            self.assertEqual(backed(book, x), tuple(-number % prime for number in x))
            power = plainly.lead(prime, things, powers[i])
            self.assertEqual(joined_all(book, [x] * prime), power)
            for j, y in enumerate(things):
                less = [a - b for a, b in zip(joined(book, x, y), joined(book, y, x))]
                self.assertEqual(tuple(number % prime for number in less),
                                 plainly.lead(prime, things, brackets[i][j]))
        for place in range(size):
            factors = []
            for k in range(many):
                factors += [things[k]] * (place // prime ** k % prime)
            self.assertEqual(joined_all(book, factors), samples.unit(size, place))
            self.assertEqual(counted(book, samples.unit(size, place)), 1 if place == 0 else 0)
        self.assertEqual(splits_turned(book), book)
        return book

    def test_one_thing(self):
        for prime in (2, 3, 5, 7, 11, 13):
            for power in {0, 1, 2, prime - 1}:
                self.by_rules(prime, [[[0]]], [[power]])
        for power in range(11):
            self.by_rules(11, [[[11]]], [[power - 22]])

    def test_several_things(self):
        self.by_rules(2, *samples.slanted(2))
        self.by_rules(3, *samples.slanted(3))
        self.by_rules(2, *samples.level_three())
        self.by_rules(2, *samples.squares_of_two())
        self.by_rules(2, [[[0] * 4] * 4] * 4, [[0, 1, 0, 0], [0, 0, 1, 1], [0, 0, 0, 1], [1, 1, 1, 1]])
        self.by_rules(3, [[[0, 0], [0, 0]], [[0, 0], [0, 0]]], [[1, 2], [2, 2]])

    def test_in_other_bases(self):
        # The same brackets and powers, of things that are sums of the former ones.
        brackets, _ = samples.slanted(3)
        rows = [(1, 1), (2, 1)]
        undone = [(2, 1), (2, 2)]
        self.assertEqual([plainly.lead(3, undone, row) for row in rows], [(1, 0), (0, 1)])
        turned = [[plainly.lead(3, undone, plainly.join(3, brackets, x, y)) for y in rows] for x in rows]
        fitting = [powers for powers in itertools.product(samples.all_rows(3, 2), repeat=2)
                   if is_fit(3, turned, powers) is None]
        self.assertEqual(len(fitting), 1)
        self.by_rules(3, turned, fitting[0])
        # Squares of size 2 over 2, by four others than those with a single 1.
        brackets, powers = samples.squares_of_two()
        rows = [(1, 0, 0, 1), (1, 1, 0, 0), (0, 1, 1, 0), (0, 1, 0, 0)]
        undone = [plainly.solved([[row[at] for row in rows] + [int(at == k)] for at in range(4)], 4, 2)
                  for k in range(4)]
        turned = [[plainly.lead(2, undone, plainly.join(2, brackets, x, y)) for y in rows] for x in rows]
        led = [(1, 0, 0, 1), (1, 1, 0, 0), (1, 0, 0, 1), (0, 0, 0, 0)]
        self.by_rules(2, turned, [plainly.lead(2, undone, row) for row in led])

    def test_all_of_two_things_over_two(self):
        seen = {}
        for x, y, power, other in itertools.product(samples.all_rows(2, 2), repeat=4):
            for brackets in ([[(0, 0), x], [y, (0, 0)]], [[x, (0, 0)], [(0, 0), y]]):
                told = is_fit(2, brackets, (power, other))
                seen[told] = seen.get(told, 0) + 1
                if told is None:
                    self.by_rules(2, brackets, (power, other))
                else:
                    self.refused(errors.BadBrackets, told, bracket_book, 2, brackets, (power, other))
        self.assertEqual(set(seen), {None, "brackets", "powers"})

    def test_brackets_that_do_not_go_round(self):
        brackets = [[[0, 0, 0] for _ in range(3)] for _ in range(3)]
        brackets[0][1] = brackets[1][0] = [0, 0, 1]
        brackets[1][2] = brackets[2][1] = [0, 1, 0]
        powers = [[0, 0, 0]] * 3
        self.assertEqual(is_fit(2, brackets, powers), "brackets")
        self.refused(errors.BadBrackets, "brackets", bracket_book, 2, brackets, powers)
        # Over 3 the bracket of a thing with itself is 0 but that of two is the same both ways.
        self.refused(errors.BadBrackets, "brackets", bracket_book, 3, [[[0, 0], [0, 1]], [[0, 1], [0, 0]]], [[1, 0], [0, 0]])
        self.refused(errors.BadBrackets, "brackets", bracket_book, 2, [[[1]]], [[0]])
        # Over 2 brackets with themselves count, though each is the negative of itself.
        self.refused(errors.BadBrackets, "brackets", bracket_book, 2, [[[1, 0], [0, 0]], [[0, 0], [0, 0]]], [[0, 0], [0, 0]])

    def test_numbers_beyond_the_prime(self):
        brackets, powers = samples.slanted(3)
        far = [[[number - 3 * 10 ** 20 for number in row] for row in square] for square in brackets]
        more = tuple(tuple(number + 6 for number in row) for row in powers)
        self.assertEqual(bracket_book(3, far, more), bracket_book(3, brackets, powers))

    def test_sizes(self):
        for prime in PRIMES:
            most = {2: 4, 3: 2}.get(prime, 1 if prime < 16 else 0)
            for many in range(1, 7):
                brackets, powers = [[[0] * many] * many] * many, [[0] * many] * many
                if many <= most:
                    self.assertEqual(bracket_book(prime, brackets, powers).size, prime ** many)
                else:
                    self.refused(errors.BadBrackets, "size", bracket_book, prime, brackets, powers)
        for strange in STRANGE + [[], (), 0, [0], [[0]], [[[0], [0]]], [[[0, 0]]], [[[0]], [[0]]], [[[True]]], [[[0.0]]],
                                  [[["0"]]], [[range(1)]], [[{0: 0}]], [[[0, 0], [0, 0]], [[0, 0], [0]]], "0", {0: [[0]]}]:
            self.refused(errors.BadBrackets, "size", bracket_book, 2, strange, [[0]])
            self.refused(errors.BadBrackets, "size", bracket_book, 2, strange, None)

    def test_powers(self):
        brackets, powers = samples.slanted(3)
        for strange in STRANGE + [[], 0, [0, 0], powers[:1], powers + powers[:1], [[1, 0], [0]], [[1, 0], [0, 0, 0]],
                                  [[1, 0], [0, False]], [[1, 0], [0, 0.0]], [[1, 0], "00"], [[1, 0], range(2)], [powers]]:
            self.refused(errors.BadBrackets, "powers", bracket_book, 3, brackets, strange)
            # That powers have no right shape is told ahead of brackets that do not go round.
            self.refused(errors.BadBrackets, "powers", bracket_book, 3, [[[1, 0], [0, 1]]] * 2, strange)
        for wrong in ([[0, 0], [0, 0]], [[1, 0], [1, 0]], [[1, 1], [0, 0]], [[2, 0], [0, 0]]):
            self.refused(errors.BadBrackets, "powers", bracket_book, 3, brackets, wrong)
            self.refused(errors.BadBrackets, "brackets", bracket_book, 3, [[[1, 0], [0, 1]]] * 2, wrong)

    def test_primes(self):
        for prime in STRANGE + [0, 1, 4, 9, 98, 101, -2]:
            self.refused(errors.BadPrime, None, bracket_book, prime, [[[0]]], [[0]])
            self.refused(errors.BadPrime, None, bracket_book, prime, None, None)


if __name__ == "__main__":
    unittest.main()
