"""Point 87: bare splitbooks and factors."""

import unittest

from splitbooks.bases import beside, in_basis, other_way
from splitbooks.books import Splitbook
from splitbooks.errors import TooMany
from splitbooks.factors import factors, is_bare
from splitbooks.families import group_book
from splitbooks.inner import inner_book, inner_spans
from splitbooks.leadings import are_alike
from splitbooks.leftovers import left_by, stays
from tests import samples
from tests.helping import Case
from tests.spansamples import spanned_books


def parts_by(book, choose):
    """The bare books that book is made of, taking at each step the inner span that choose tells of those that stay."""
    if book.size == 1:
        return []
    spans = [span for span in inner_spans(book) if 1 < len(span) < book.size and stays(book, span)]
    if not spans:
        return [book]
    span = choose(spans)
    return parts_by(inner_book(book, span), choose) + parts_by(left_by(book, span), choose)


def as_often(one, other):
    """Whether two lists have the same books, up to likeness, each as often."""
    left = list(other)
    for book in one:
        found = next((more for more in left if more.prime == book.prime and are_alike(book, more)), None)
        if found is None:
            return False
        left.remove(found)
    return not left


class FactorsTest(Case):

    def test_factors(self):
        bare = {True: 0, False: 0}
        for name, book in spanned_books().items():
            with self.subTest(name=name):
                found = factors(book)
                self.assertEqual(found, factors(Splitbook(*samples.tables(book))))
                product = 1
                for part in found:
                    self.assertIs(type(part), Splitbook)
                    self.assertEqual(part.prime, book.prime)
                    self.assertIs(is_bare(part), True)
                    self.assertEqual(factors(part), [part])
                    product *= part.size
                self.assertEqual(product, book.size)
                told = is_bare(book)
                bare[told] += 1
                self.assertIs(told, found == [book])
                spans = [span for span in inner_spans(book) if stays(book, span)]
                self.assertIs(told, book.size > 1 and len(spans) == 2)
                self.keeps_lists(factors, book)
        self.assertGreater(min(bare.values()), 20)

    def test_any_spans_taken(self):
        seen = 0
        for name, book in spanned_books().items():
            found = factors(book)
            if len(found) < 2 or book.size > 8:
                continue
            seen += 1
            with self.subTest(name=name):
                for choose in (lambda spans: spans[0], lambda spans: spans[-1], lambda spans: spans[len(spans) // 2]):
                    self.assertTrue(as_often(found, parts_by(book, choose)))
        self.assertGreater(seen, 20)

    def test_known(self):
        self.assertEqual(factors(group_book(5, [[0]])), [])
        self.assertIs(is_bare(group_book(5, [[0]])), False)
        two, three = group_book(2, samples.cyclic(2)), group_book(2, samples.cyclic(3))
        self.assertTrue(as_often(factors(group_book(2, samples.SIX)), [two, three]))
        self.assertTrue(as_often(factors(group_book(2, samples.EIGHT)), [two] * 3))
        self.assertTrue(as_often(factors(group_book(2, samples.cyclic(9))), [three] * 2))
        self.assertTrue(as_often(factors(other_way(group_book(2, samples.SIX))), [other_way(two), other_way(three)]))
        slip = samples.families()["slip 2"]
        self.assertTrue(as_often(factors(beside(slip, two)), factors(slip) + [two]))
        self.assertEqual([part.size for part in factors(slip)], [2, 2])
        for prime, size in ((2, 7), (5, 3), (2, 2)):
            book = in_basis(group_book(prime, samples.cyclic(size)), samples.some_basis(size, prime))
            self.assertIs(is_bare(book), True)
            self.assertEqual(factors(book), [book])

    def test_limit(self):
        for prime, size in ((2, 9), (3, 6), (5, 4), (7, 3), (23, 2), (97, 1)):
            book = group_book(prime, samples.cyclic(size))
            self.assertIs(is_bare(book), size in (2, 3))
            self.assertEqual(len(factors(book)), {9: 2, 6: 2, 4: 2, 3: 1, 2: 1, 1: 0}[size])
        for prime, size in ((2, 10), (3, 7), (5, 5), (7, 4), (29, 2), (11, 3)):
            book = group_book(prime, samples.cyclic(size))
            self.refused(TooMany, 729, is_bare, book)
            self.refused(TooMany, 729, factors, book)
        for function in (is_bare, factors):
            self.wants_books(function, 1)


if __name__ == "__main__":
    unittest.main()
