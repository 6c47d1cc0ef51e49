"""Point 100: doubles; and what points 40, 44, 45 and 101 say of them."""

import unittest

from splitbooks.bases import other_way, splits_turned
from splitbooks.books import Splitbook
from splitbooks.crossings import is_crossing
from splitbooks.doings import back_undone, backed, joined
from splitbooks.doubles import double, double_crossing, from_rows, from_things
from splitbooks.errors import TooMany
from splitbooks.families import group_book, shift_book
from splitbooks.leadings import is_leading
from splitbooks.selfsplit import selfsplit_things
from splitbooks.swallowed import shift_row, sides_alike, swallowed_left, swallowed_right
from tests import plainly, samples
from tests.helping import Case
from tests.test_swallowed import multiple


def pairs_of_numbers(prime, f, h):
    """The pair of a row and a thing, as a thing of the double."""
    return tuple(a * b % prime for a in f for b in h)


def three_parts(book):
    """(k, a, b, c): number for the split of each thing into three parts, its second half split once more."""
    found = {}
    places = range(book.size)
    for k in places:
        for a in places:
            for m in places:
                if book.splits[k][a][m]:
                    for b in places:
                        for c in places:
                            number = book.splits[k][a][m] * book.splits[m][b][c]
                            found[k, a, b, c] = (found.get((k, a, b, c), 0) + number) % book.prime
    return {key: number for key, number in found.items() if number}


def double_plainly(book):
    """The joins and the splits of the double, as the document tells them."""
    n, prime, other = book.size, book.prime, other_way(book)
    places, things = range(n), samples.plain(n)
    undone = back_undone(book)
    parts = three_parts(book)

    def put(x, y):
        return plainly.join(prime, book.joins, x, y)

    joins, splits = [], []
    for i in places:
        for k in places:
            line = []
            for j in places:
                for m in places:
                    total = [0] * (n * n)
                    for (thing, a, b, c), number in parts.items():
                        if thing == k:
                            told = tuple(put(put(undone[c], things[x]), things[a])[j] for x in places)
                            row = plainly.join(prime, other.joins, things[i], told)
                            for at, more in enumerate(pairs_of_numbers(prime, row, put(things[b], things[m]))):
                                total[at] += number * more
                    line.append(tuple(number % prime for number in total))
            joins.append(tuple(line))
            square = [[0] * (n * n) for _ in range(n * n)]
            for f1 in places:
                for f2 in places:
                    for h1 in places:
                        for h2 in places:
                            square[f2 * n + h1][f1 * n + h2] += other.splits[i][f1][f2] * book.splits[k][h1][h2]
            splits.append(tuple(tuple(number % prime for number in row) for row in square))
    return tuple(joins), tuple(splits)


def small():
    """Books of at most four things, by name; of four things not all."""
    names = ("four over 5, other way", "two and two over 3, other basis", "shift 2 over 3", "shift 2 over 97, other basis",
             "slip 2, other way, other basis", "slanted 2", "slanted 2, other way", "shift 2 over 5, joins turned")
    return {name: book for name, book in samples.more_books().items() if book.size <= 3 or name in names}


class DoublesTest(Case):

    def test_double(self):
        seen = {}
        for name, book in small().items():
            prime = book.prime
            with self.subTest(name=name):
                found = double(book)
                self.assertIs(type(found), Splitbook)
                self.assertEqual((found.prime, found.size), (prime, book.size ** 2))
                joins, splits = double_plainly(book)
                self.assertEqual(found.joins, joins)
                self.assertEqual(found.splits, splits)
                self.assertEqual(found.one, pairs_of_numbers(prime, book.counts, book.one))
                wanted = [book.one[i] * c % prime for i in range(book.size) for c in book.counts]
                self.assertEqual(found.counts, tuple(wanted))
                self.assertEqual(found, double(Splitbook(*samples.tables(book))))
                seen[book.size] = seen.get(book.size, 0) + 1
        self.assertEqual(sorted(seen), [1, 2, 3, 4])

    def test_from_things_and_rows(self):
        for name, book in small().items():
            prime, n = book.prime, book.size
            whole = double(book)
            with self.subTest(name=name):
                things, rows = from_things(book), from_rows(book)
                self.numbers_within(prime, things, 2)
                self.numbers_within(prime, rows, 2)
                for k, thing in enumerate(samples.plain(n)):
                    self.assertEqual(things[k], pairs_of_numbers(prime, book.counts, thing))
                    self.assertEqual(rows[k], pairs_of_numbers(prime, thing, book.one))
                self.assertTrue(is_leading(book, whole, things))
                self.assertTrue(is_leading(splits_turned(other_way(book)), whole, rows))
                for f, h in zip(samples.some_things(book, 3), samples.some_things(book, 3, 2)):
                    pair = joined(whole, plainly.lead(prime, rows, f), plainly.lead(prime, things, h))
                    self.assertEqual(pair, pairs_of_numbers(prime, f, h))
                    first = backed(whole, plainly.lead(prime, things, h))
                    self.assertEqual(backed(whole, pair), joined(whole, first, backed(whole, plainly.lead(prime, rows, f))))

    def test_crossing_of_the_double(self):
        for name, book in small().items():
            prime, n = book.prime, book.size
            with self.subTest(name=name):
                square = double_crossing(book)
                self.numbers_within(prime, square, 2)
                self.assertEqual(len(square), n * n)
                wanted = [[0] * (n * n) for _ in range(n * n)]
                for thing in samples.plain(n):
                    first = pairs_of_numbers(prime, book.counts, thing)
                    for a, row in enumerate(plainly.pair(prime, first, pairs_of_numbers(prime, thing, book.one))):
                        wanted[a] = [x + y for x, y in zip(wanted[a], row)]
                self.assertEqual(square, tuple(tuple(x % prime for x in row) for row in wanted))
                self.assertIs(is_crossing(double(book), square), True)

    def test_selfsplit_things(self):
        """Point 40: each is a selfsplit row joined to a selfsplit thing, in either sequence."""
        for name, book in small().items():
            whole = double(book)
            prime = book.prime
            found = selfsplit_things(whole)
            tellers, things = selfsplit_things(other_way(book)), selfsplit_things(book)
            pairs = {}
            with self.subTest(name=name):
                for f in tellers:
                    for h in things:
                        first = plainly.lead(prime, from_rows(book), f)
                        last = plainly.lead(prime, from_things(book), h)
                        pair = joined(whole, first, last)
                        if pair in found:
                            self.assertEqual(joined(whole, last, first), pair)
                            self.assertNotIn(pair, pairs)
                            pairs[pair] = True
                self.assertEqual(sorted(pairs), sorted(found))

    def test_swallowed(self):
        """Points 44 and 45: both sides are alike, and which thing is swallowed."""
        for name, book in small().items():
            whole = double(book)
            with self.subTest(name=name):
                self.assertIs(sides_alike(whole), True)
                self.assertEqual(shift_row(whole), whole.counts)
                told = pairs_of_numbers(book.prime, swallowed_left(other_way(book)), swallowed_right(book))
                self.assertIsNotNone(multiple(book.prime, told, swallowed_left(whole)))
                self.assertEqual(swallowed_left(whole), swallowed_right(whole))

    def test_limits(self):
        four = [group_book(3, samples.cyclic(4)), shift_book(97, 2, 96), samples.books()["slip 2, other basis"]]
        five = [group_book(3, samples.cyclic(5)), samples.books()["six over 2"], samples.large_books()["shift 4 over 5"]]
        for function in (double, from_things, from_rows, double_crossing):
            for book in four:
                self.assertIsNotNone(function(book))
            for book in five:
                self.refused(TooMany, 16, function, book)
            self.wants_books(function, 1)

    def test_by_hand(self):
        """The double of the group of two things over 3: rows that tell of a thing, joined, are themselves or 0."""
        whole = double(group_book(3, samples.cyclic(2)))
        # Thing i * 2 + k: (row i, thing k).
        for i in range(2):
            for k in range(2):
                for j in range(2):
                    for m in range(2):
                        wanted = samples.unit(4, i * 2 + (k + m) % 2) if i == j else (0,) * 4
                        self.assertEqual(whole.joins[i * 2 + k][j * 2 + m], wanted)
        self.assertEqual(whole.one, (1, 0, 1, 0))
        self.assertEqual(whole.counts, (1, 1, 0, 0))
        self.assertEqual(double_crossing(group_book(3, samples.cyclic(2))),
                         ((1, 0, 0, 0), (0, 0, 1, 0), (1, 0, 0, 0), (0, 0, 1, 0)))


if __name__ == "__main__":
    unittest.main()
