"""Point 102: three strands, things that can be undone, and the thing of a crossing."""

import unittest

from splitbooks.doings import backed, joined
from splitbooks.doubles import double, double_crossing
from splitbooks.errors import BadCrossing, BadRow, BadSquare
from splitbooks.families import group_book, shift_book
from splitbooks.forms import is_form, row_form, shift_of
from splitbooks.selfsplit import is_selfsplit
from splitbooks.strands import crossing_thing, three_strands, thing_undone
from splitbooks.turners import form_turner, turner
from tests import plainly, plainrooms, samples
from tests.helping import Case
from tests.test_crossings import crossed_books


def strands_plainly(book, square):
    """The two cubes, sum by sum."""
    prime, n = book.prime, book.size
    pairs = plainrooms.pairs([[number % prime for number in row] for row in square])
    found = []
    for turned in (False, True):
        def put(x, y, turned=turned):
            return plainrooms.pairs([book.joins[y][x] if turned else book.joins[x][y]])

        total = [[[0] * n for _ in range(n)] for _ in range(n)]
        for a, b, one in pairs:
            for c, d, two in pairs:
                for e, f, three in pairs:
                    for _, p, i in put(a, c):
                        for _, q, j in put(b, e):
                            for _, s, k in put(d, f):
                                total[p][q][s] += one * two * three * i * j * k
        found.append(tuple(tuple(tuple(number % prime for number in row) for row in square) for square in total))
    return tuple(found)


class StrandsTest(Case):

    def test_any_square(self):
        unlike = 0
        for name, book in samples.more_books().items():
            if book.size <= 3 or name in ("shift 2 over 3", "slip 2, other way, other basis", "slanted 2"):
                prime = book.prime
                square = samples.some_basis(book.size, prime, 4)
                with self.subTest(name=name):
                    found = self.unchanged(three_strands, book, square)
                    self.assertIs(type(found), tuple)
                    self.assertEqual(len(found), 2)
                    for cube in found:
                        self.numbers_within(prime, cube, 3)
                    self.assertEqual(found, strands_plainly(book, square))
                    self.assertEqual(found, three_strands(book, [self.spelled(prime, row)[3] for row in square]))
                    unlike += found[0] != found[1]
        self.assertGreater(unlike, 2)

    def test_crossings(self):
        for name, (book, square) in crossed_books().items():
            with self.subTest(name=name):
                first, second = three_strands(book, square)
                self.assertEqual(first, second)
                if book.size <= 4:
                    self.assertEqual((first, second), strands_plainly(book, square))

    def test_strands_refused(self):
        book = group_book(3, samples.cyclic(2))
        for value in self.wrong_squares(2):
            self.refused(BadSquare, None, three_strands, book, value)
        self.wants_books(three_strands, 1, [[1]])


class UndoneTest(Case):

    def test_all_things(self):
        both = {True: 0, False: 0}
        for name, book in samples.small_books(130).items():
            rows = list(samples.all_rows(book.prime, book.size))
            table = {x: {y for y in rows if joined(book, x, y) == book.one == joined(book, y, x)}
                     for x in rows} if len(rows) <= 30 else None
            with self.subTest(name=name):
                for x in rows:
                    found = thing_undone(book, x)
                    both[found is not None] += 1
                    if table is not None:
                        self.assertEqual({found} - {None}, table[x])
                    if found is not None:
                        self.assertEqual(joined(book, x, found), book.one)
                        self.assertEqual(joined(book, found, x), book.one)
                        self.numbers_within(book.prime, found, 1)
                    else:
                        behind = [joined(book, y, x) for y in samples.plain(book.size)]
                        self.assertLess(plainly.rank(behind, book.prime), book.size)
        self.assertGreater(min(both.values()), 200)

    def test_of_larger_books(self):
        for name in ("six over 5, other basis", "slip 3", "level, other basis", "shift beside two, other basis"):
            book = samples.books()[name]
            for x in samples.some_things(book, 12) + [book.one, (0,) * book.size]:
                found = self.unchanged(thing_undone, book, list(x))
                if found is None:
                    behind = [joined(book, y, x) for y in samples.plain(book.size)]
                    self.assertLess(plainly.rank(behind, book.prime), book.size)
                else:
                    self.assertEqual(joined(book, x, found), book.one)
                    self.assertEqual(joined(book, found, x), book.one)
                    self.assertEqual(thing_undone(book, self.spelled(book.prime, x)[1]), found)
            self.assertEqual(thing_undone(book, book.one), book.one)

    def test_forms(self):
        """Point 51: row_form is a form exactly if shift_of the row can be undone; point 52: how this form turns."""
        both = {True: 0, False: 0}
        for name, book in samples.more_books().items():
            if book.size > 6:
                continue
            for row in samples.some_things(book, 5, 3) + [book.counts]:
                thing = shift_of(book, row)
                undone = thing_undone(book, thing)
                with self.subTest(name=name):
                    told = is_form(book, row_form(book, row))
                    both[told] += 1
                    self.assertIs(told, undone is not None)
                    if told:
                        turned = turner(book)
                        self.assertEqual(form_turner(book, row_form(book, row)), tuple(
                            joined(book, joined(book, undone, y), thing) for y in turned))
        self.assertGreater(min(both.values()), 60)

    def test_refused(self):
        self.refuses_rows(BadRow, thing_undone, group_book(3, samples.cyclic(2)))


class CrossingThingTest(Case):

    def test_crossing_thing(self):
        unlike = 0
        for name, (book, square) in crossed_books().items():
            prime = book.prime
            with self.subTest(name=name):
                u = self.unchanged(crossing_thing, book, [list(row) for row in square])
                self.numbers_within(prime, u, 1)
                total = [0] * book.size
                for a, b, number in plainrooms.pairs(square):
                    row = plainly.join(prime, book.joins, book.back[b], samples.unit(book.size, a))
                    total = [so_far + number * more for so_far, more in zip(total, row)]
                self.assertEqual(u, tuple(number % prime for number in total))
                self.assertEqual(u, crossing_thing(book, [self.spelled(prime, row)[1] for row in square]))
                undone = thing_undone(book, u)
                self.assertIsNotNone(undone)
                unlike += u != book.one
                for x in samples.plain(book.size):
                    self.assertEqual(backed(book, backed(book, x)), joined(book, joined(book, u, x), undone))
                # With what undoes its back, a selfsplit thing that leads the back four times.
                g = joined(book, u, thing_undone(book, backed(book, u)))
                self.assertTrue(is_selfsplit(book, g))
                undone = thing_undone(book, g)
                for x in samples.plain(book.size):
                    four = x
                    for _ in range(4):
                        four = backed(book, four)
                    self.assertEqual(four, joined(book, joined(book, g, x), undone))
        self.assertGreater(unlike, 10)

    def test_refused(self):
        book = group_book(3, samples.cyclic(2))
        for value in self.wrong_squares(2) + [[[0, 0], [0, 0]], [[1, 1], [1, 1]], [[True, 0], [0, 0]]]:
            self.refused(BadCrossing, None, crossing_thing, book, value)
        self.assertEqual(crossing_thing(book, [[4, 0], [0, 0]]), (1, 0))
        self.wants_books(crossing_thing, 1, [[1]])
        whole = double(shift_book(5, 2, 4))
        square = double_crossing(shift_book(5, 2, 4))
        self.refused(BadCrossing, None, crossing_thing, whole, tuple(zip(*square)))


if __name__ == "__main__":
    unittest.main()
