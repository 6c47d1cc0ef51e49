"""Point 43: things that split evenly, their brackets and powers, and what these make."""

import unittest

from splitbooks.bases import beside
from splitbooks.betweens import betweens
from splitbooks.brackets import bracket_book
from splitbooks.doings import backed, counted
from splitbooks.evens import even_brackets, even_leading, evens, is_even
from splitbooks.families import group_book, shift_book
from splitbooks.leadings import is_leading
from tests import plainly, samples
from tests.helping import Case


def splits_evenly(book, x):
    prime = book.prime
    one = plainly.pair(prime, x, book.one)
    other = plainly.pair(prime, book.one, x)
    wanted = tuple(tuple((a + b) % prime for a, b in zip(row, line)) for row, line in zip(one, other))
    return plainly.split(prime, book.splits, x) == wanted


def put(book, x, y):
    return plainly.join(book.prime, book.joins, x, y)


def less(prime, x, y):
    return tuple((a - b) % prime for a, b in zip(x, y))


def often(book, x, many):
    found = x
    for _ in range(many - 1):
        found = put(book, found, x)
    return found


def total(prime, numbers, rows):
    return plainly.lead(prime, rows, numbers)


class EvensTest(Case):

    def test_all_things_of_small_books(self):
        for name, book in samples.small_books(300).items():
            with self.subTest(name=name):
                found = [x for x in samples.all_rows(book.prime, book.size) if splits_evenly(book, x)]
                self.assertEqual(evens(book), plainly.tidy(found, book.prime))
                for x in samples.all_rows(book.prime, book.size):
                    self.assertIs(is_even(book, x), x in found)

    def test_evens_of_all_books(self):
        for name, book in samples.more_books().items():
            with self.subTest(name=name):
                found = evens(book)
                self.is_tidy(book.prime, book.size, found)
                self.assertEqual(found, betweens(book, book.one, book.one))
                for x in found:
                    self.assertTrue(splits_evenly(book, x))
                    self.assertIs(is_even(book, x), True)
                    self.assertEqual(counted(book, x), 0)
                    self.assertEqual(backed(book, x), tuple(-a % book.prime for a in x))
                    for spelled in self.spelled(book.prime, x):
                        self.assertIs(is_even(book, spelled), True)
                self.assertIs(is_even(book, [0] * book.size), True)
                self.assertIs(is_even(book, book.one), False)

    def test_brackets_of_all_books(self):
        for name, book in samples.more_books().items():
            prime = book.prime
            with self.subTest(name=name):
                found = evens(book)
                told = even_brackets(book)
                self.assertIs(type(told), tuple)
                brackets, powers = told
                if not found:
                    self.assertEqual(told, ((), ()))
                    self.assertIsNone(even_leading(book))
                    continue
                self.numbers_within(prime, brackets, 3)
                self.numbers_within(prime, powers, 2)
                for i, x in enumerate(found):
                    for j, y in enumerate(found):
                        bracket = less(prime, put(book, x, y), put(book, y, x))
                        self.assertTrue(is_even(book, bracket))
                        self.assertEqual(total(prime, brackets[i][j], found), bracket)
                    power = often(book, x, prime)
                    self.assertTrue(is_even(book, power))
                    self.assertEqual(total(prime, powers[i], found), power)

    def test_leading(self):
        for name, book in samples.more_books().items():
            found = evens(book)
            if found:
                with self.subTest(name=name):
                    rows = even_leading(book)
                    self.numbers_within(book.prime, rows, 2)
                    source = bracket_book(book.prime, *even_brackets(book))
                    self.assertTrue(is_leading(source, book, rows))
                    self.assertEqual(plainly.rank(rows, book.prime), source.size)
                    self.assertEqual(book.size % book.prime ** len(found), 0)
                    for at, row in enumerate(rows):
                        wanted = book.one
                        for x in found:
                            for _ in range(at % book.prime):
                                wanted = put(book, wanted, x)
                            at = at // book.prime
                        self.assertEqual(row, wanted)

    def test_bracket_books(self):
        for prime, brackets, powers in ((2, *samples.slanted(2)), (3, *samples.slanted(3)), (2, *samples.level_three()),
                                        (2, *samples.squares_of_two()), (13, [[[0]]], [[-1]])):
            book = bracket_book(prime, brackets, powers)
            things = [samples.unit(book.size, prime ** k) for k in range(len(brackets))]
            self.assertEqual(sorted(evens(book)), sorted(things))
            order = [evens(book).index(x) for x in things]
            found = even_brackets(book)
            for i, a in enumerate(order):
                self.assertEqual([found[1][a][k] for k in order], [x % prime for x in powers[i]])
                for j, b in enumerate(order):
                    self.assertEqual([found[0][a][b][k] for k in order], [x % prime for x in brackets[i][j]])
            # In this sequence: the things have their 1 at places that ascend.
            self.assertEqual(order, list(range(len(order))))

    def test_beside(self):
        pairs = [(bracket_book(2, [[[0]]], [[1]]), bracket_book(2, *samples.slanted(2))),
                 (bracket_book(3, [[[0]]], [[2]]), group_book(3, samples.cyclic(3))),
                 (bracket_book(3, [[[0]]], [[0]]), shift_book(3, 2, 2))]
        for one, other in pairs:
            both = beside(one, other)
            rows = [tuple(a * b % one.prime for a in e for b in other.one) for e in evens(one)]
            rows += [tuple(a * b % one.prime for a in one.one for b in e) for e in evens(other)]
            self.assertEqual(evens(both), plainly.tidy(rows, one.prime))

    def test_no_evens(self):
        for book in (group_book(5, samples.SIX), shift_book(97, 2, 96), group_book(2, [[0]]),
                     samples.large_books()["sixteen over 97"]):
            self.assertEqual(evens(book), [])
            self.assertEqual(even_brackets(book), ((), ()))
            self.assertIsNone(even_leading(book))

    def test_any_value(self):
        book = samples.families()["slanted 2"]
        for value in self.wrong_rows(4):
            self.assertIs(is_even(book, value), False)
        self.assertIs(is_even(book, (0, 1, 0, 0)), True)
        self.assertIs(is_even(book, (False, True, False, False)), False)

    def test_refusals_and_lists(self):
        self.wants_books(is_even, 1, [1, 0])
        for function in (evens, even_brackets, even_leading):
            self.wants_books(function, 1)
        self.keeps_lists(evens, samples.families()["slanted 2"])
        self.keeps_lists(evens, samples.families()["two over 3"])
        row = [0, 3, -2, 0]
        self.unchanged(is_even, samples.families()["slanted 2"], row)


if __name__ == "__main__":
    unittest.main()
