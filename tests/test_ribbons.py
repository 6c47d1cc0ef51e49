"""Point 113: weighers and ribbons."""

import itertools
import unittest

from splitbooks.bases import other_way
from splitbooks.crossings import crossings
from splitbooks.doings import backed, counted, joined, split, squares_joined
from splitbooks.doubles import double, double_crossing
from splitbooks.errors import BadCrossing, BadWeigher
from splitbooks.families import group_book, shift_book
from splitbooks.ribbons import is_ribbon, is_weigher, ribbon_of, ribbons, weighers
from splitbooks.selfsplit import is_selfsplit, selfsplit_things
from splitbooks.strands import crossing_thing, thing_undone
from tests import plainly, samples
from tests.helping import Case
from tests.weavesamples import crossed_books


def weighs(book, square, g):
    """Whether a thing is a weigher, as the document says it."""
    if not is_selfsplit(book, g):
        return False
    u = crossing_thing(book, square)
    if joined(book, joined(book, g, g), backed(book, u)) != u:
        return False
    return all(joined(book, g, x) == joined(book, backed(book, backed(book, x)), g) for x in samples.plain(book.size))


def is_ribbon_plainly(book, square, v):
    if counted(book, v) != 1 or backed(book, v) != v:
        return False
    if not all(joined(book, v, x) == joined(book, x, v) for x in samples.plain(book.size)):
        return False
    u = crossing_thing(book, square)
    if joined(book, v, v) != joined(book, u, backed(book, u)):
        return False
    met = squares_joined(book, squares_joined(book, split(book, v), tuple(zip(*square))), square)
    return met == plainly.pair(book.prime, v, v)


class RibbonsTest(Case):

    def test_weighers(self):
        many = set()
        for name, (book, square) in crossed_books().items():
            with self.subTest(name=name):
                found = self.unchanged(weighers, book, square)
                self.assertIs(type(found), list)
                self.assertEqual(found, sorted(g for g in selfsplit_things(book) if weighs(book, square, g)))
                many.add(len(found))
                for g in found:
                    self.numbers_within(book.prime, g, 1)
                    self.assertIs(self.unchanged(is_weigher, book, square, g), True)
                    for spelled in self.spelled(book.prime, g):
                        self.assertIs(is_weigher(book, square, spelled), True)
                for thing in selfsplit_things(book) + samples.some_things(book, 5):
                    self.assertIs(is_weigher(book, square, thing), thing in found)
                self.keeps_lists(weighers, book, square)
        self.assertTrue({0, 1, 2, 4} <= many)

    def test_ribbons(self):
        tried = 0
        for name, (book, square) in crossed_books().items():
            with self.subTest(name=name):
                found = self.unchanged(ribbons, book, square)
                self.assertIs(type(found), list)
                self.assertEqual(found, sorted(set(found)))
                self.assertEqual(found, sorted(ribbon_of(book, square, g) for g in weighers(book, square)))
                for v in found:
                    self.numbers_within(book.prime, v, 1)
                    self.assertTrue(is_ribbon_plainly(book, square, v))
                    self.assertIs(self.unchanged(is_ribbon, book, square, v), True)
                    for spelled in self.spelled(book.prime, v):
                        self.assertIs(is_ribbon(book, square, spelled), True)
                self.keeps_lists(ribbons, book, square)
                if book.prime ** book.size > 700:
                    continue
                tried += 1
                for v in samples.all_rows(book.prime, book.size):
                    self.assertIs(is_ribbon(book, square, v), v in found)
                    self.assertIs(is_ribbon_plainly(book, square, v), v in found)
        self.assertGreater(tried, 15)

    def test_each_condition_counts(self):
        """Of all things that are a ribbon but for one condition, some are met; each of them is refused."""
        book, square = crossed_books()["two over 3: 0"]
        # The plain crossing: v joined to v is one, v splits into itself twice: one and g. Not 2 times one, of the count 2.
        self.assertEqual(ribbons(book, square), [(0, 1), (1, 0)])
        self.assertIs(is_ribbon(book, square, (2, 0)), False)
        self.assertIs(is_ribbon(book, square, (2, 2)), False)
        book, square = crossed_books()["two over 3: 1"]
        self.assertEqual(crossing_thing(book, square), (0, 1))
        self.assertEqual(ribbons(book, square), [(0, 1), (1, 0)])
        # Of quaternions there are things undone by themselves of the count 1 that are no products of signs.
        book, square = crossed_books()["quaternions, signs"]
        for v in samples.some_things(book, 40):
            self.assertIs(is_ribbon(book, square, v), is_ribbon_plainly(book, square, v))

    def test_ribbon_of(self):
        for name, (book, square) in crossed_books().items():
            u = crossing_thing(book, square)
            found = weighers(book, square)
            with self.subTest(name=name):
                made = []
                for g in found:
                    v = self.unchanged(ribbon_of, book, square, g)
                    self.numbers_within(book.prime, v, 1)
                    self.assertEqual(v, joined(book, u, thing_undone(book, g)))
                    self.assertEqual(ribbon_of(book, square, [n - book.prime for n in g]), v)
                    made.append(v)
                self.assertEqual(len(set(made)), len(made))
                for g, h in itertools.product(found, repeat=2):
                    less = joined(book, g, thing_undone(book, h))
                    self.assertIs(is_selfsplit(book, less), True)
                    self.assertEqual(joined(book, less, less), book.one)
                    for x in samples.plain(book.size):
                        self.assertEqual(joined(book, less, x), joined(book, x, less))
                for g in selfsplit_things(book):
                    if g not in found:
                        self.refused(BadWeigher, None, ribbon_of, book, square, g)

    def test_facts(self):
        """The double of a shift_book of order 2 has none; in that of a group_book one is one."""
        for prime in (3, 5, 7, 97):
            book = shift_book(prime, 2, prime - 1)
            self.assertEqual(weighers(double(book), double_crossing(book)), [])
            self.assertEqual(ribbons(double(book), double_crossing(book)), [])
        for prime in (2, 3, 5, 7, 97):
            for table in ([[0]], samples.cyclic(2), samples.cyclic(3), samples.cyclic(4), samples.FOUR):
                book = group_book(prime, table)
                whole = double(book)
                self.assertIs(is_weigher(whole, double_crossing(book), whole.one), True)
                self.assertIn(whole.one, weighers(whole, double_crossing(book)))

    def test_spellings(self):
        book, square = crossed_books()["two over 3: 1"]
        more = [[number + 3 for number in row] for row in square]
        self.assertEqual(weighers(book, more), weighers(book, square))
        self.assertEqual(ribbons(book, tuple(map(list, square))), ribbons(book, square))
        self.assertEqual(ribbon_of(book, more, [1, 3]), (0, 1))

    def test_refused(self):
        book, square = crossed_books()["two over 3: 1"]
        for function, others in ((weighers, ()), (ribbons, ()), (is_weigher, (None,)), (is_ribbon, (None,)), (ribbon_of, (None,))):
            self.wants_books(function, 1, None, *others)
            for value in self.wrong_squares(2) + [[[1, 0], [0, 1]], [[2, 2], [2, 2]]]:
                self.refused(BadCrossing, None, function, book, value, *others)
        for value in self.wrong_rows(2) + [(0, 0), (1, 1), (2, 0)]:
            self.assertIs(is_weigher(book, square, value), False)
            self.assertIs(is_ribbon(book, square, value), False)
            self.refused(BadWeigher, None, ribbon_of, book, square, value)

    def test_by_hand(self):
        """The signs of two: u is g; one and g weigh; what undoes them leaves g and one."""
        book = group_book(3, samples.cyclic(2))
        square = ((2, 2), (2, 1))
        self.assertEqual(weighers(book, square), [(0, 1), (1, 0)])
        self.assertEqual(ribbon_of(book, square, (1, 0)), (0, 1))
        self.assertEqual(ribbon_of(book, square, (0, 1)), (1, 0))
        three = other_way(group_book(7, samples.cyclic(3)))
        self.assertEqual([len(weighers(three, each)) for each in crossings(three)], [1, 1, 1])


if __name__ == "__main__":
    unittest.main()
