"""Points 41 and 42: things that split between two others, and layers."""

import unittest

from splitbooks import errors
from splitbooks.bases import beside, in_basis, other_way
from splitbooks.betweens import betweens, layers
from splitbooks.brackets import bracket_book
from splitbooks.doings import backed, counted, joined, split
from splitbooks.families import group_book, shift_book, slip_book
from splitbooks.selfsplit import selfsplit_things
from tests import plainly, samples
from tests.helping import Case
from tests.samples import STRANGE


def all_books():
    return list(samples.books().items()) + list(samples.large_books().items())


def less(book, x, y):
    return tuple((a - b) % book.prime for a, b in zip(x, y))


def pairs_of(book):
    """Some pairs of selfsplit things: all, if these are few."""
    things = selfsplit_things(book)
    pairs = [(g, h) for g in things for h in things]
    return pairs if len(pairs) <= 16 else pairs[:6] + pairs[-6:]


class BetweensTest(Case):

    def test_all_of_few_things(self):
        for name, book in samples.books().items():
            prime = book.prime
            if prime ** book.size > 800:
                continue
            with self.subTest(name=name):
                for g, h in pairs_of(book):
                    wanted = []
                    for x in samples.all_rows(prime, book.size):
                        right, left = plainly.pair(prime, x, g), plainly.pair(prime, h, x)
                        if plainly.split(prime, book.splits, x) == tuple(
                                tuple((a + b) % prime for a, b in zip(r, s)) for r, s in zip(right, left)):
                            wanted.append(x)
                    self.assertEqual(betweens(book, g, h), plainly.tidy(wanted, prime))

    def test_facts(self):
        for name, book in all_books():
            with self.subTest(name=name):
                prime = book.prime
                for g, h in pairs_of(book):
                    found = betweens(book, g, h)
                    self.is_tidy(prime, book.size, found)
                    self.assertTrue(plainly.is_sum(less(book, g, h), found + [(0,) * book.size], prime))
                    for x in found:
                        self.assertEqual(counted(book, x), 0)
                        right, left = plainly.pair(prime, x, g), plainly.pair(prime, h, x)
                        self.assertEqual(split(book, x), tuple(
                            tuple((a + b) % prime for a, b in zip(r, s)) for r, s in zip(right, left)))
                        led = joined(book, joined(book, backed(book, h), x), backed(book, g))
                        self.assertEqual(backed(book, x), tuple(-number % prime for number in led))

    def test_selfsplit_things_joined(self):
        for name, book in samples.books().items():
            with self.subTest(name=name):
                for g, h in pairs_of(book)[:8]:
                    for u in selfsplit_things(book)[:4]:
                        found = betweens(book, g, h)
                        self.assertEqual(betweens(book, joined(book, u, g), joined(book, u, h)),
                                         plainly.tidy([joined(book, u, x) for x in found], book.prime))
                        self.assertEqual(betweens(book, joined(book, g, u), joined(book, h, u)),
                                         plainly.tidy([joined(book, x, u) for x in found], book.prime))

    def test_by_hand(self):
        shift = shift_book(3, 2, 2)
        one, g = (1, 0, 0, 0), (0, 0, 1, 0)
        # x splits into x, one and g, x.
        self.assertEqual(betweens(shift, one, g), [(1, 0, 2, 0), (0, 1, 0, 0)])
        self.assertEqual(betweens(shift, g, one), [(1, 0, 2, 0), (0, 0, 0, 1)])
        self.assertEqual(betweens(shift, one, one), [])
        self.assertEqual(betweens(shift, g, g), [])
        self.assertEqual(betweens(bracket_book(3, [[[0]]], [[1]]), (1, 0, 0), (1, 0, 0)), [(0, 1, 0)])
        level = bracket_book(2, *samples.level_three())
        units = samples.plain(8)
        self.assertEqual(betweens(level, units[0], units[0]), [units[1], units[2], units[4]])

    def test_numbers_beyond_the_prime(self):
        shift = shift_book(3, 2, 2)
        self.assertEqual(self.unchanged(betweens, shift, [-2, 3, 0, 0], (0, 0, 10, -3 * 10 ** 20)),
                         [(1, 0, 2, 0), (0, 1, 0, 0)])

    def test_lists_may_be_changed(self):
        shift = shift_book(3, 2, 2)
        one, g = (1, 0, 0, 0), (0, 0, 1, 0)
        found = betweens(shift, one, g)
        found.clear()
        self.assertEqual(betweens(shift, one, g), [(1, 0, 2, 0), (0, 1, 0, 0)])

    def test_refusals(self):
        book = shift_book(3, 2, 2)
        good, no_selfsplit = (1, 0, 0, 0), (0, 1, 0, 0)
        self.wants_books(betweens, 1, good, good)
        for strange in STRANGE + [(1, 0, 0), (1, 0, 0, 0, 0), (True, 0, 0, 0), (1, 0, 0, False), [1.0, 0, 0, 0],
                                  "1000", range(4), {0: 1}, [[1, 0, 0, 0]], 1]:
            self.refused(errors.BadRow, None, betweens, book, strange, good)
            self.refused(errors.BadRow, None, betweens, book, good, strange)
            self.refused(errors.BadRow, None, betweens, book, strange, no_selfsplit)
            self.refused(errors.BadRow, None, betweens, book, no_selfsplit, strange)
        for wrong in (no_selfsplit, (0, 0, 0, 0), (2, 0, 0, 0), (1, 0, 1, 0), (1, 1, 0, 0)):
            self.refused(errors.BadSelfsplit, None, betweens, book, wrong, good)
            self.refused(errors.BadSelfsplit, None, betweens, book, good, wrong)
            self.refused(errors.BadSelfsplit, None, betweens, book, wrong, wrong)


def plain_layers(book):
    """The layers, plainly: what splits into sums of pairs as told, by the equations for each thing."""
    prime, size = book.prime, book.size
    units = samples.plain(size)
    first = plainly.tidy(selfsplit_things(book), prime)
    found = [first]
    while True:
        pairs = [(x, y) for x in first for y in units] + [(x, y) for x in units for y in found[-1]]
        span = plainly.tidy([[a * b for a in x for b in y] for x, y in pairs], prime)
        # What a thing's split leaves beyond the span is the same sum of multiples of what the units' splits leave.
        beyond = []
        for square in book.splits:
            row = [number for line in square for number in line]
            for line in span:
                at = next(k for k, number in enumerate(line) if number)
                by = row[at]
                row = [(a - by * b) % prime for a, b in zip(row, line)]
            beyond.append(row)
        # The rows of numbers that make nothing of these.
        told = plainly.tidy([left + list(unit) for left, unit in zip(beyond, units)], prime)
        more = [row[size * size:] for row in told if not any(row[:size * size])]
        if len(more) == len(found[-1]):
            return found
        found.append(more)


class LayersTest(Case):

    def test_as_the_equations_tell(self):
        for name, book in samples.books().items():
            if book.size <= 6:
                with self.subTest(name=name):
                    self.assertEqual(layers(book), plain_layers(book))

    def test_all_of_few_things(self):
        for name in ("slip 2, other basis", "slanted 2, other way, other basis", "level, other basis"):
            book = samples.books()[name]
            prime, size = book.prime, book.size
            found = layers(book)
            for last, more in zip(found, found[1:] + found[-1:]):
                units = samples.plain(size)
                pairs = [(x, y) for x in found[0] for y in units] + [(x, y) for x in units for y in last]
                span = plainly.tidy([[a * b for a in x for b in y] for x, y in pairs], prime)
                for x in samples.all_rows(prime, size):
                    row = [number for line in split(book, x) for number in line]
                    self.assertIs(plainly.is_sum(x, more, prime), plainly.is_sum(row, span, prime))

    def test_shapes(self):
        for name, book in all_books():
            with self.subTest(name=name):
                found = layers(book)
                self.assertIs(type(found), list)
                for rows in found:
                    self.is_tidy(book.prime, book.size, rows)
                self.assertEqual(found[0], plainly.tidy(selfsplit_things(book), book.prime))
                for rows, more in zip(found, found[1:]):
                    self.assertLess(len(rows), len(more))
                    self.assertEqual(plainly.tidy(rows + more, book.prime), more)

    def test_facts(self):
        for name, book in samples.books().items():
            with self.subTest(name=name):
                prime = book.prime
                found = layers(book)
                for i, rows in enumerate(found):
                    self.assertEqual(plainly.tidy([backed(book, x) for x in rows], prime), rows)
                    for j, more in enumerate(found):
                        both = found[min(i + j, len(found) - 1)]
                        led = [joined(book, x, y) for x in rows for y in more]
                        self.assertEqual(plainly.tidy(both + led, prime), both)
                for k, rows in enumerate(found):
                    pairs = [(x, y) for i in range(k + 1) for x in found[i] for y in found[k - i]]
                    span = plainly.tidy([[a * b for a in x for b in y] for x, y in pairs], prime)
                    for x in rows:
                        self.assertTrue(plainly.is_sum([n for line in split(book, x) for n in line], span, prime))

    def test_heart(self):
        for name, book in all_books():
            with self.subTest(name=name):
                found, things = layers(book), selfsplit_things(book)
                many, rows = len(things), list(things)
                total = many
                for g in things:
                    for h in things:
                        between = betweens(book, g, h)
                        total += len(between) - (0 if g == h else 1)
                        rows += between
                second = found[1] if len(found) > 1 else found[0]
                self.assertEqual(plainly.tidy(rows, book.prime), second)
                self.assertEqual(total, len(second))
                for layer in found:
                    self.assertEqual(len(layer) % many, 0)
                self.assertEqual(book.size % len(found[-1]), 0)

    def test_of_families(self):
        for name, book in samples.books().items():
            found = [len(rows) for rows in layers(book)]
            with self.subTest(name=name):
                if name in samples.families() and name.startswith(("one", "two", "three", "four", "six")):
                    self.assertEqual(found, [book.size])
                elif name.startswith(("shift", "slip")) and name.split(",")[0] in samples.families():
                    order = int(book.size ** 0.5)
                    if name.startswith("shift") or "other way" not in name:
                        self.assertEqual(found, list(range(order, book.size + 1, order)))
        self.assertEqual([len(rows) for rows in layers(shift_book(5, 4, 2))], [4, 8, 12, 16])
        self.assertEqual([len(rows) for rows in layers(slip_book(3))], [3, 6, 9])
        brackets = bracket_book(13, [[[0]]], [[5]])
        self.assertEqual([len(rows) for rows in layers(brackets)], list(range(1, 14)))
        # A group book read the other way whose selfsplit things do not tell all: just one layer of them.
        six = other_way(group_book(5, samples.SIX))
        self.assertEqual([len(rows) for rows in layers(six)], [2])

    def test_by_hand(self):
        two = other_way(group_book(2, samples.cyclic(2)))
        self.assertEqual(layers(two), [[(1, 1)], [(1, 0), (0, 1)]])
        three = other_way(group_book(3, samples.cyclic(2)))
        self.assertEqual(layers(three), [[(1, 0), (0, 1)]])
        self.assertEqual(layers(shift_book(3, 2, 2)), [[(1, 0, 0, 0), (0, 0, 1, 0)], list(samples.plain(4))])

    def test_beside_and_other_bases(self):
        shift, two = shift_book(3, 2, 2), group_book(3, samples.cyclic(2))
        self.assertEqual([len(rows) for rows in layers(beside(shift, two))], [4, 8])
        self.assertEqual([len(rows) for rows in layers(beside(slip_book(2), slip_book(2)))], [4, 12, 16])
        for name, book in samples.families().items():
            rows = samples.some_basis(book.size, book.prime, 8)
            found = layers(in_basis(book, rows))
            with self.subTest(name=name):
                led = [plainly.tidy([plainly.lead(book.prime, rows, x) for x in layer], book.prime) for layer in found]
                self.assertEqual(led, layers(book))

    def test_lists_may_be_changed(self):
        shift = shift_book(3, 2, 2)
        found = layers(shift)
        found[0].append(1)
        found[1].clear()
        found.append([])
        self.assertEqual(layers(shift), [[(1, 0, 0, 0), (0, 0, 1, 0)], list(samples.plain(4))])

    def test_refusals(self):
        self.wants_books(layers, 1)


if __name__ == "__main__":
    unittest.main()
