"""Points 120 and 121: all splitbooks of few things."""

import functools
import itertools
import unittest

from splitbooks.bases import in_basis, joins_turned, other_way, splits_turned
from splitbooks.books import Splitbook
from splitbooks.brackets import bracket_book
from splitbooks.errors import BadNumber, BadPrime, BadShape
from splitbooks.families import group_book, shift_book, slip_book
from splitbooks.fewbooks import few_alike, few_books, few_likeness, few_place
from splitbooks.leadings import are_alike, is_leading, likeness
from splitbooks.selfsplit import selfsplit_things
from splitbooks.values import PRIMES
from tests import plainly, samples
from tests.helping import Case

MANY = {1: {}, 2: {2: 3}, 3: {3: 5}, 4: {}}
USUAL = {1: 1, 2: 1, 3: 2, 4: 6}


def sizes(prime):
    return range(1, 4 if prime == 2 else 5)


@functools.lru_cache(None)
def kept_books(prime, size):
    return few_books(prime, size)


def spellings(book, seed=1):
    """The book, and what is alike or made of it, as books of its size."""
    rows = samples.some_basis(book.size, book.prime, seed)
    more = samples.some_basis(book.size, book.prime, seed + 7)
    return [book, in_basis(book, rows), other_way(book), in_basis(other_way(book), more), joins_turned(book),
            in_basis(splits_turned(book), more)]


class FewBooksTest(Case):

    def test_many(self):
        for prime in PRIMES:
            for size in sizes(prime):
                found = few_books(prime, size)
                self.assertIs(type(found), list)
                self.assertEqual(len(found), MANY[size].get(prime, USUAL[size]))
                for book in found:
                    self.assertIs(type(book), Splitbook)
                    self.assertEqual((book.prime, book.size), (prime, size))
        self.assertEqual(few_books(5, 4), few_books(5, 4))
        self.keeps_lists(few_books, 3, 3)

    def test_none_is_alike_another(self):
        for prime in (2, 3, 5, 7, 97):
            for size in sizes(prime):
                found = kept_books(prime, size)
                for one, other in itertools.combinations(range(len(found)), 2):
                    self.assertIs(few_alike(found[one], found[other]), False)
                    if prime ** ((size - 1) ** 2) <= 20000:
                        self.assertIs(are_alike(found[one], found[other]), False)

    def test_place_and_likeness(self):
        for prime in (2, 3, 5, 7, 11, 13, 17, 31, 61, 97):
            for size in sizes(prime):
                found = kept_books(prime, size)
                for at, first in enumerate(found):
                    for other in spellings(first, prime):
                        with self.subTest(prime=prime, size=size, at=at):
                            place = self.unchanged(few_place, other)
                            self.assertIs(type(place), int)
                            rows = self.unchanged(few_likeness, other)
                            self.numbers_within(prime, rows, 2)
                            self.assertIs(is_leading(found[place], other, rows), True)
                            self.assertEqual(plainly.rank(rows, prime), size)
                            self.assertEqual(few_likeness(other), rows)
                            self.assertIs(few_alike(other, first), place == at)
                            if prime ** ((size - 1) ** 2) <= 3000:
                                self.assertEqual([likeness(each, other) is not None for each in found],
                                                 [k == place for k in range(len(found))])
                    self.assertEqual(few_place(first), at)

    def test_all_primes(self):
        for prime in PRIMES:
            for size in sizes(prime):
                for at, first in enumerate(kept_books(prime, size)):
                    other = in_basis(first, samples.some_basis(size, prime, at))
                    self.assertEqual(few_place(other), at)
                    self.assertIs(is_leading(first, other, few_likeness(other)), True)

    def test_families_are_there(self):
        for prime in (2, 3, 5, 7, 97):
            books = [group_book(prime, samples.cyclic(n)) for n in sizes(prime)]
            if prime > 2:
                books += [group_book(prime, samples.FOUR), shift_book(prime, 2, prime - 1)]
            if prime < 4:
                books += [bracket_book(prime, [[[0]]], [[power]]) for power in range(prime)]
            places = set()
            for book in books + [other_way(book) for book in books]:
                place = few_place(book)
                places.add((book.size, place))
                self.assertIs(is_leading(kept_books(prime, book.size)[place], book, few_likeness(book)), True)
            self.assertGreater(len(places), 4)

    def test_facts_of_three(self):
        for prime in PRIMES:
            for size in range(1, 4):
                for book in kept_books(prime, size):
                    self.assertEqual(joins_turned(book), book)
                    self.assertEqual(splits_turned(book), book)
        for prime in (2, 5, 11, 17, 23, 89):
            three = group_book(prime, samples.cyclic(3))
            self.assertEqual(sorted([few_place(three), few_place(other_way(three))]), [0, 1])
        for prime in (7, 13, 19, 97):
            three = group_book(prime, samples.cyclic(3))
            self.assertIs(few_alike(three, other_way(three)), True)
            book = kept_books(prime, 3)[1 - few_place(three)]
            self.assertEqual(selfsplit_things(book), [book.one])
            self.assertIs(few_alike(book, other_way(book)), True)

    def test_facts_of_two(self):
        two = group_book(2, samples.cyclic(2))
        powers = [bracket_book(2, [[[0]]], [[power]]) for power in range(2)]
        self.assertEqual(sorted(few_place(book) for book in [two] + powers), [0, 1, 2])
        self.assertIs(few_alike(powers[1], other_way(two)), True)
        for prime in (3, 5, 97):
            self.assertEqual(few_place(group_book(prime, samples.cyclic(2))), 0)

    def test_facts_over_three(self):
        powers = [bracket_book(3, [[[0]]], [[power]]) for power in range(3)]
        books = powers + [other_way(powers[1]), other_way(powers[2])]
        self.assertEqual(sorted(few_place(book) for book in books), [0, 1, 2, 3, 4])
        self.assertIs(few_alike(other_way(powers[1]), group_book(3, samples.cyclic(3))), True)
        self.assertIs(few_alike(other_way(powers[0]), powers[0]), True)

    def test_facts_of_four(self):
        for prime in PRIMES[1:]:
            books = kept_books(prime, 4)
            odd = [book for book in books if joins_turned(book) != book]
            self.assertEqual(len(odd), 1)
            self.assertIs(few_alike(odd[0], shift_book(prime, 2, prime - 1)), True)
            rest = [book for book in books if book is not odd[0]]
            told = []
            for book in rest:
                self.assertEqual(splits_turned(book), book)
                told.append((book.back == samples.plain(4), len(selfsplit_things(book))))
            self.assertEqual(sorted(told), [(False, 2), (False, 4), (True, 1), (True, 2), (True, 4)])
            turns = few_place(group_book(prime, samples.cyclic(4)))
            self.assertEqual(told[[book for book in books].index(books[turns])], (False, 4))
            of_two = next(at for at, book in enumerate(books) if book.back != samples.plain(4)
                          and book in rest and len(selfsplit_things(book)) == 2)
            for at, book in enumerate(books):
                wanted = at
                if prime % 4 == 3 and at in (turns, of_two):
                    wanted = turns + of_two - at
                self.assertEqual(few_place(other_way(book)), wanted)

    def test_alike(self):
        for prime in (2, 3, 7):
            books = [book for size in sizes(prime) for book in kept_books(prime, size)]
            others = [in_basis(book, samples.some_basis(book.size, prime, 9)) for book in books]
            for (i, one), (j, other) in itertools.product(enumerate(books), enumerate(others)):
                self.assertIs(few_alike(one, other), i == j)

    def test_refused(self):
        for value in samples.STRANGE + [0, 1, 4, 9, 101, -3, "3", [3]]:
            self.refused(BadPrime, None, few_books, value, None)
        for value in samples.STRANGE + [0, 5, -1, 16, "3", [3], 3.0, 2 ** 70]:
            for prime in (2, 3, 97):
                self.refused(BadNumber, "size", few_books, prime, value)
        self.refused(BadNumber, "size", few_books, 2, 4)
        for function in (few_place, few_likeness):
            self.wants_books(function, 1)
            for book in (group_book(2, samples.cyclic(4)), slip_book(2), group_book(3, samples.cyclic(5)),
                         group_book(97, samples.cyclic(16)), group_book(2, samples.cyclic(8))):
                self.refused(BadNumber, "size", function, book)
        self.wants_books(few_alike, 2)
        three, four = group_book(3, samples.cyclic(3)), group_book(2, samples.cyclic(4))
        self.refused(BadShape, "prime", few_alike, three, four)
        self.refused(BadShape, "prime", few_alike, four, three)
        self.refused(BadNumber, "size", few_alike, four, four)
        self.refused(BadNumber, "size", few_alike, group_book(2, [[0]]), four)
        self.refused(BadNumber, "size", few_alike, group_book(3, samples.cyclic(5)), three)
        self.assertIs(few_alike(three, group_book(3, samples.cyclic(2))), False)


if __name__ == "__main__":
    unittest.main()
