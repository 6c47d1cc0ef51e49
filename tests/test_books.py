"""Points 3, 4, 10, 11: what a splitbook is made of, and the first wrong place of tables that are none."""

import itertools
import random
import unittest

from splitbooks import errors
from splitbooks.bases import in_basis
from splitbooks.books import Splitbook, what_is_wrong
from tests import plainly, samples
from tests.helping import Case
from tests.samples import STRANGE

PRIMES = [n for n in range(2, 98) if all(n % k for k in range(2, n))]
PLAIN_ONE = ([[[1]]], [1], [[[1]]], [1])


def idempotents(size):
    """Joins of things of which each, joined to itself, is itself, and to others 0; their one."""
    return [[samples.unit(size, i) if i == j else (0,) * size for j in range(size)] for i in range(size)], [1] * size


def selfsplits(size):
    """Splits of things that are all selfsplit; their counts."""
    return idempotents(size)


def of_monoid(table):
    size = len(table)
    splits, counts = selfsplits(size)
    return [[samples.unit(size, k) for k in row] for row in table], samples.unit(size, 0), splits, counts


class ShapesTest(Case):

    def both_refuse(self, error, part, *args):
        self.refused(error, part, what_is_wrong, *args)
        self.refused(error, part, Splitbook, *args)

    def test_primes(self):
        self.assertEqual(len(PRIMES), 25)
        for prime in PRIMES:
            self.assertIsNone(what_is_wrong(prime, *PLAIN_ONE))
            self.assertEqual(Splitbook(prime, *PLAIN_ONE).prime, prime)

    def test_what_is_no_prime(self):
        for strange in STRANGE + [[2], (2,), "2", 2.0, 3.0]:
            self.both_refuse(errors.BadPrime, None, strange, *PLAIN_ONE)
        for number in [n for n in range(-10, 130) if n not in PRIMES] + [10 ** 30, 101, 103, 9973, -2, -97]:
            self.both_refuse(errors.BadPrime, None, number, *PLAIN_ONE)

    def test_what_is_no_shape(self):
        good = samples.tables(samples.families()["two over 3"])
        cube = good[1]
        no_cubes = STRANGE + [
            [], (), 1, [1, 2], [[1, 0], [0, 1]], cube[:1], cube + cube[:1], [cube[0], cube[1][:1]],
            [cube[0], [[1, 0], [0]]], [cube[0], [[1, 0], [0, 1, 0]]], [cube[0], [[1, 0], [0, True]]],
            [cube[0], [[1, 0], [0, 1.0]]], [cube[0], [[1, 0], [None, 1]]], [cube[0], [[1, 0], {0: 1, 1: 0}]],
            [cube[0], [[1, 0], "ab"]], [cube[0], [[1, 0], range(2)]], [[[1]]],
            [samples.plain(3)] * 3, [cube]]
        no_rows = STRANGE + [[], (), 1, [1], [1, 0, 0], [[1, 0]], [1, True], [False, 1], [1, 0.0], [1, "0"], range(2)]
        for name, place, values in (("joins", 1, no_cubes), ("one", 2, no_rows), ("splits", 3, no_cubes),
                                    ("counts", 4, no_rows)):
            for value in values:
                if name == "joins" and value in ([[[1]]], [samples.plain(3)] * 3):
                    continue
                args = list(good)
                args[place] = value
                with self.subTest(name=name):
                    self.both_refuse(errors.BadShape, name, *args)

    def test_joins_tell_the_size(self):
        good = list(samples.tables(samples.families()["two over 3"]))
        good[1] = [[[1]]]
        self.both_refuse(errors.BadShape, "one", *good)
        good[2] = [1]
        self.both_refuse(errors.BadShape, "splits", *good)
        good[3] = [[[1]]]
        self.both_refuse(errors.BadShape, "counts", *good)

    def test_sequence_of_refusals(self):
        args = [4, None, None, None, None]
        self.both_refuse(errors.BadPrime, None, *args)
        args[0] = 3
        for place, name, value in ((1, "joins", [[[0]]]), (2, "one", [0]), (3, "splits", [[[0]]]), (4, "counts", [0])):
            self.both_refuse(errors.BadShape, name, *args)
            args[place] = value
        self.assertEqual(what_is_wrong(*args), ("one", 0))
        self.refused(errors.BadBook, ("one", 0), Splitbook, *args)

    def test_sizes(self):
        for size in (1, 2, 15, 16):
            tables = of_monoid(samples.cyclic(size))
            self.assertIsNone(what_is_wrong(2, *tables))
            self.assertEqual(Splitbook(2, *tables).size, size)
        self.both_refuse(errors.BadShape, "joins", 2, *of_monoid(samples.cyclic(17)))
        self.both_refuse(errors.BadShape, "joins", 2, [], [], [], [])


class WrongTest(Case):

    def told(self, part, *args):
        self.assertEqual(plainly.wrong(*args), part)
        self.assertEqual(what_is_wrong(*args), part)
        if part is None:
            Splitbook(*args)
            return
        self.assertIs(type(what_is_wrong(*args)), tuple)
        self.refused(errors.BadBook, part, Splitbook, *args)

    def test_nothing_wrong_with_samples(self):
        for name, book in samples.books().items():
            with self.subTest(name=name):
                self.assertIsNone(what_is_wrong(*samples.tables(book)))
                if book.size <= 4:
                    self.assertIsNone(plainly.wrong(*samples.tables(book)))

    def test_joins(self):
        joins, one, splits, counts = of_monoid(samples.cyclic(3))
        joins[1][1] = (0, 0, 2)
        self.told(("joins", 1, 1, 2), 5, joins, one, splits, counts)
        joins[2][2] = (1, 1, 1)
        self.told(("joins", 1, 1, 2), 5, joins, one, splits, counts)
        joins, one, splits, counts = of_monoid(samples.cyclic(3))
        joins[2][2] = (1, 1, 1)
        self.told(("joins", 1, 1, 2), 5, joins, one, splits, counts)
        joins, one, splits, counts = of_monoid(samples.cyclic(2))
        joins[0][0] = (0, 1)
        self.told(("joins", 0, 0, 1), 5, joins, one, splits, counts)
        joins, one, splits, counts = of_monoid([[0, 1], [1, 1]])
        joins[1][0] = (1, 1)
        self.told(("joins", 1, 0, 0), 5, joins, one, splits, counts)

    def test_one(self):
        joins, _, splits, counts = of_monoid(samples.cyclic(3))
        self.told(("one", 0), 5, joins, (0, 1, 0), splits, counts)
        self.told(("one", 0), 5, joins, (0, 0, 0), splits, counts)
        self.told(("one", 2), 5, *of_monoid([[0, 1, 1], [1, 1, 1], [1, 1, 1]]))
        # Here one joined to each thing leaves it, and each thing joined to one makes one.
        self.told(("one", 1), 5, *of_monoid([[0, 1], [0, 1]]))
        self.told(("one", 1), 5, *of_monoid([[0, 0], [1, 1]]))

    def test_splits_and_counts(self):
        joins, one, splits, counts = of_monoid(samples.cyclic(3))
        splits[2] = ((0, 0, 0), (0, 0, 0), (1, 1, 1))
        self.told(("splits", 2), 5, joins, one, splits, counts)
        splits[2] = ((0, 0, 0), (0, 0, 0), (0, 0, 2))
        self.told(("counts", 2), 5, joins, one, splits, counts)
        joins, one, splits, counts = of_monoid(samples.cyclic(3))
        self.told(("counts", 1), 5, joins, one, splits, [1, 2, 1])
        # Splits of which just the first halves, or just the second ones, are left if the others are counted.
        left = [[[1, 1], [0, 0]], [[0, 0], [1, 1]]]
        right = [[[1, 0], [1, 0]], [[0, 1], [0, 1]]]
        joins, one, _, _ = of_monoid(samples.cyclic(2))
        for splits in (left, right):
            self.told(("counts", 0), 5, joins, one, splits, [1, 0])
            self.told(("counts", 0), 5, joins, one, splits, [0, 1])

    def test_both(self):
        # One is no longer selfsplit, whether its count is 1 or not.
        joins, one = idempotents(2)
        splits, counts = selfsplits(2)
        self.told(("both",), 3, joins, one, splits, counts)
        joins, one = idempotents(4)
        splits, counts = selfsplits(4)
        self.told(("both",), 3, joins, one, splits, counts)
        # Things that split evenly, but are undone by themselves.
        joins, one, _, _ = of_monoid(samples.cyclic(2))
        splits = [[[1, 0], [0, 0]], [[0, 1], [1, 0]]]
        self.told(("both", 1, 1), 3, joins, one, splits, [1, 0])
        self.told(("both", 1, 1), 2, joins, one, splits, [1, 0])
        # Of three selfsplit things two are joined to a sum.
        joins, one, splits, counts = of_monoid([[0, 1, 2], [1, 1, 2], [2, 2, 2]])
        joins[1][1] = (0, 0, 1)
        joins[1][2] = joins[2][1] = joins[2][2] = (0, 0, 0)
        self.told(("both", 1, 2), 3, joins, one, splits, counts)

    def test_back(self):
        for table in ([[0, 1], [1, 1]], [[0, 1, 2], [1, 2, 2], [2, 2, 2]], [[0, 1, 2], [1, 1, 1], [2, 2, 2]]):
            for prime in (2, 3):
                joins, one, splits, counts = of_monoid(table)
                self.told(("back",), prime, joins, one, splits, counts)
                places = range(len(table))
                turned_joins = [[[splits[k][i][j] for k in places] for j in places] for i in places]
                turned_splits = [[[joins[j][k][i] for k in places] for j in places] for i in places]
                self.told(("back",), prime, turned_joins, counts, turned_splits, one)

    def test_numbers_altered(self):
        chance = random.Random(11)
        seen = set()
        for name, book in samples.books().items():
            if book.size > 4:
                continue
            for _ in range(10):
                args = samples.tables(book)
                table = chance.choice(args[1:])
                while isinstance(table[0], list):
                    table = chance.choice(table)
                table[chance.randrange(len(table))] += chance.choice([-1, 1, book.prime, -2 * book.prime])
                with self.subTest(name=name, args=args):
                    told = what_is_wrong(*args)
                    self.assertEqual(told, plainly.wrong(*args))
                    seen.add(told and told[0])
        self.assertEqual(seen, {None, "joins", "one", "splits", "counts", "both", "back"})

    def test_joins_and_splits_of_unlike_books(self):
        seen = set()
        small = [book for book in samples.books().values() if book.size in (2, 4)]
        for one, other in itertools.product(small, small):
            if one.prime == other.prime and one.size == other.size:
                args = (one.prime, one.joins, one.one, other.splits, other.counts)
                told = what_is_wrong(*args)
                if one.size == 2 or len(seen) < 12:
                    self.assertEqual(told, plainly.wrong(*args))
                    seen.add(told)
        self.assertTrue({None, ("both",), ("both", 1, 1)} <= seen)

    def test_splits_of_another_basis(self):
        # Joins stay, splits and counts are led by a map that keeps one: no earlier place is wrong.
        seen = set()
        for name, book in samples.books().items():
            if not 3 <= book.size <= 6:
                continue
            prime = book.prime
            turned = in_basis(book, samples.some_basis(book.size, prime, 3))
            for seed in range(3):
                things = [turned.one] + samples.some_things(turned, 30, seed)
                rows = []
                for thing in things:
                    if plainly.rank(rows + [thing], prime) > len(rows):
                        rows.append(thing)
                base = in_basis(turned, rows)
                again = in_basis(turned, rows[:1] + [rows[1]] + [tuple(
                    (a + b) % prime for a, b in zip(rows[1], row)) for row in rows[2:]])
                for splits in (base, again):
                    args = (prime, base.joins, base.one, splits.splits, splits.counts)
                    told = what_is_wrong(*args)
                    with self.subTest(name=name, seed=seed):
                        self.assertEqual(told, plainly.wrong(*args))
                    seen.add(told)
        self.assertIn(None, seen)
        self.assertTrue({("both", 1, 2), ("both", 2, 2)} <= seen, seen)

    def test_large_books_altered(self):
        for name, book in samples.large_books().items():
            with self.subTest(name=name):
                last = book.size - 1
                args = samples.tables(book)
                args[1][last][last][0] += 1
                self.assertEqual(what_is_wrong(*args)[0], "joins")
                args = samples.tables(book)
                args[2][last] += 1
                self.assertEqual(what_is_wrong(*args)[0], "one")
                args = samples.tables(book)
                args[4][last] += 1
                self.assertEqual(what_is_wrong(*args)[0], "counts")

    def test_all_of_two_things_over_two(self):
        rows = list(samples.all_rows(2, 2))
        cubes = [((a, b), (c, d)) for a, b, c, d in itertools.product(rows, repeat=4)]
        empty = ([[[1, 0], [0, 0]], [[0, 0], [0, 1]]], [1, 1])
        joining = [(joins, one) for joins in cubes for one in rows
                   if (what_is_wrong(2, joins, one, *empty) or ("",))[0] not in ("joins", "one")]
        other = of_monoid([[0, 1], [1, 1]])[:2]
        splitting = [(splits, counts) for splits in cubes for counts in rows
                     if (what_is_wrong(2, *other, splits, counts) or ("",))[0] not in ("splits", "counts")]
        self.assertEqual(len(joining), len(splitting))
        good = [(one, other) for one in joining for other in splitting if what_is_wrong(2, *one, *other) is None]
        self.assertEqual(len(good), 18)
        for one, other in itertools.product(joining, splitting):
            self.assertEqual(what_is_wrong(2, *one, *other), plainly.wrong(2, *one, *other))

    def test_all_of_one_thing(self):
        for prime in (2, 3, 5):
            good = [numbers for numbers in samples.all_rows(prime, 4)
                    if what_is_wrong(prime, [[[numbers[0]]]], [numbers[1]], [[[numbers[2]]]], [numbers[3]]) is None]
            self.assertEqual(len(good), prime - 1)
            for joins, one, splits, counts in samples.all_rows(prime, 4):
                args = (prime, [[[joins]]], [one], [[[splits]]], [counts])
                self.assertEqual(what_is_wrong(*args), plainly.wrong(*args))


class SplitbookTest(Case):

    def test_attributes(self):
        for name, book in list(samples.books().items()) + list(samples.large_books().items()):
            with self.subTest(name=name):
                self.assertEqual(book.size, len(book.joins))
                for value, depth in ((book.joins, 3), (book.one, 1), (book.splits, 3), (book.counts, 1), (book.back, 2)):
                    self.numbers_within(book.prime, value, depth)
                    self.assertEqual(len(value), book.size)

    def test_back_undoes_splits(self):
        for name, book in samples.books().items():
            if book.size > 6:
                continue
            with self.subTest(name=name):
                prime, plain = book.prime, samples.plain(book.size)
                for square, count in zip(book.splits, book.counts):
                    wanted = tuple(count * number % prime for number in book.one)
                    for halves in ((book.back, plain), (plain, book.back)):
                        led = plainly.lead_halves(prime, square, *halves)
                        total = [0] * book.size
                        for j, row in enumerate(led):
                            for k, number in enumerate(row):
                                total = [a + number * b for a, b in zip(total, book.joins[j][k])]
                        self.assertEqual(tuple(number % prime for number in total), wanted)

    def test_back_is_that_of_the_equations(self):
        for name, book in samples.books().items():
            if book.size <= 4:
                with self.subTest(name=name):
                    self.assertEqual(book.back, plainly.back(*samples.tables(book)))

    def test_numbers_beyond_the_prime(self):
        chance = random.Random(5)

        def moved(value, prime):
            if isinstance(value, int):
                return value + prime * chance.choice([-3, -1, 0, 1, 10 ** 20])
            return chance.choice([list, tuple])(moved(part, prime) for part in value)

        for name, book in samples.books().items():
            with self.subTest(name=name):
                args = [book.prime] + [moved(part, book.prime) for part in samples.tables(book)[1:]]
                self.assertIsNone(self.unchanged(what_is_wrong, *args))
                again = self.unchanged(Splitbook, *args)
                self.assertEqual(again, book)
                self.assertEqual((again.joins, again.one, again.splits, again.counts, again.back),
                                 (book.joins, book.one, book.splits, book.counts, book.back))

    def test_what_is_handed_in_may_be_changed_afterwards(self):
        args = samples.tables(samples.families()["two over 3"])
        book = Splitbook(*args)
        args[1][0][0][0] = 2
        args[2][0] = 0
        args[3][1][1][1] = 0
        args[4].append(1)
        self.assertEqual(samples.tables(book), samples.tables(samples.families()["two over 3"]))

    def test_equal(self):
        books = list(samples.books().items())
        for name, book in books:
            again = Splitbook(*samples.tables(book))
            self.assertTrue(book == again)
            self.assertFalse(book != again)
            for strange in STRANGE + [book.prime, book.joins, samples.tables(book), vars(book)]:
                if not isinstance(strange, samples.Odd):
                    self.assertFalse(book == strange)
                    self.assertTrue(book != strange)
            for other_name, other in books:
                like = samples.tables(book) == samples.tables(other)
                self.assertIs(book == other, like)
                self.assertIs(book != other, not like)

    def test_unequal_by_each_table(self):
        families = samples.families()
        self.assertNotEqual(families["two over 2"], Splitbook(3, *samples.tables(families["two over 2"])[1:]))
        self.assertNotEqual(families["brackets 2, power 0"], families["brackets 2, power 1"])
        books = samples.books()
        shift = books["shift 2 over 3"]
        self.assertNotEqual(shift, books["shift 2 over 3, joins turned"])
        self.assertNotEqual(shift, books["shift 2 over 3, splits turned"])


if __name__ == "__main__":
    unittest.main()
