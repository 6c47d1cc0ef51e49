"""Points 20 and 21: other bases, the other way, turned about, side by side."""

import unittest

from splitbooks import errors
from splitbooks.bases import beside, coordinates, in_basis, joins_turned, other_way, splits_turned
from splitbooks.books import Splitbook
from splitbooks.doings import back_undone, backed, counted, joined, split
from splitbooks.families import group_book, shift_book
from splitbooks.leadings import is_leading
from tests import plainly, samples
from tests.helping import Case
from tests.samples import STRANGE


class InBasisTest(Case):

    def test_things_stand_for_rows(self):
        for name, book in samples.books().items():
            prime, size = book.prime, book.size
            if size > 6:
                continue
            with self.subTest(name=name):
                rows = samples.some_basis(size, prime, 7)
                made = self.unchanged(in_basis, book, rows)
                self.assertIsInstance(made, Splitbook)
                self.assertEqual(made.prime, prime)
                self.assertTrue(is_leading(made, book, rows))
                for i in range(size):
                    self.assertEqual(made.counts[i], counted(book, rows[i]))
                    self.assertEqual(plainly.lead_halves(prime, made.splits[i], rows, rows), split(book, rows[i]))
                    self.assertEqual(plainly.lead(prime, rows, made.back[i]), backed(book, rows[i]))
                    for j in range(size):
                        self.assertEqual(plainly.lead(prime, rows, made.joins[i][j]), joined(book, rows[i], rows[j]))
                self.assertEqual(plainly.lead(prime, rows, made.one), book.one)

    def test_plain_basis_changes_nothing(self):
        for name, book in samples.books().items():
            with self.subTest(name=name):
                self.assertEqual(in_basis(book, samples.plain(book.size)), book)

    def test_there_and_back(self):
        for name, book in samples.families().items():
            with self.subTest(name=name):
                rows = samples.some_basis(book.size, book.prime, 4)
                made = in_basis(book, rows)
                undone = [coordinates(book, rows, samples.unit(book.size, k)) for k in range(book.size)]
                self.assertEqual(in_basis(made, undone), book)

    def test_by_hand(self):
        book = group_book(3, samples.cyclic(2))
        made = in_basis(book, [[1, 0], [-1, 1]])
        self.assertEqual(made.joins, (((1, 0), (0, 1)), ((0, 1), (0, 1))))
        self.assertEqual(made.one, (1, 0))
        self.assertEqual(made.counts, (1, 0))
        self.assertEqual(made.splits, (((1, 0), (0, 0)), ((0, 1), (1, 1))))
        turned = in_basis(book, ([0, 1], [1, 0]))
        self.assertEqual(turned.one, (0, 1))
        self.assertEqual(turned.joins, (((0, 1), (1, 0)), ((1, 0), (0, 1))))

    def test_coordinates(self):
        for name, book in samples.books().items():
            prime = book.prime
            with self.subTest(name=name):
                rows = samples.some_basis(book.size, prime, 5)
                for thing in samples.some_things(book, 4):
                    found = self.unchanged(coordinates, book, rows, [number - prime for number in thing])
                    self.numbers_within(prime, found, 1)
                    self.assertEqual(plainly.lead(prime, rows, found), thing)
                for k in range(book.size):
                    self.assertEqual(coordinates(book, rows, rows[k]), samples.unit(book.size, k))

    def test_refusals(self):
        book = shift_book(3, 2, 2)
        rows = samples.plain(4)
        self.wants_books(in_basis, 1, rows)
        self.wants_books(coordinates, 1, rows, (0, 0, 0, 0))
        bad = STRANGE + [
            [], rows[:3], rows + rows[:1], [rows], [[1, 0], [0, 1]], [0, 0, 0, 0], [[0] * 4] * 4, 5,
            rows[:3] + rows[:1], rows[:3] + ((1, 2, 0, 0),), rows[:3] + ((0, 0, 0, 3),), rows[:3] + ((0, 0, 0, True),),
            rows[:3] + ((0, 0, 0, 1, 0),), rows[:3] + ((0, 0, 1),), rows[:3] + ("abcd",), rows[:3] + (range(4),),
            [(1, 1, 0, 0), (0, 1, 1, 0), (0, 0, 1, 1), (1, 0, 0, 1)], {k: row for k, row in enumerate(rows)}]
        for value in bad:
            self.refused(errors.BadBasis, None, in_basis, book, value)
            self.refused(errors.BadBasis, None, coordinates, book, value, (0, 0, 0, 0))
            self.refused(errors.BadBasis, None, coordinates, book, value, None)
        for value in STRANGE + [[0] * 3, [0] * 5, [0, 0, 0, True], range(4)]:
            self.refused(errors.BadRow, None, coordinates, book, rows, value)
        # The last of the rows above are a basis over 5, or with another sign.
        in_basis(book, [(1, 1, 0, 0), (0, 1, 1, 0), (0, 0, 1, 1), (1, 0, 0, -1 + 3)])
        in_basis(book, list(rows[:3]) + [[0, 0, 0, 4]])


class TurnedTest(Case):

    def all_books(self):
        return list(samples.books().items()) + list(samples.large_books().items())

    def test_other_way(self):
        for name, book in self.all_books():
            with self.subTest(name=name):
                other = other_way(book)
                places = range(book.size)
                for i in places:
                    for j in places:
                        for k in places:
                            self.assertEqual(other.joins[i][j][k], book.splits[k][i][j])
                            self.assertEqual(other.splits[i][j][k], book.joins[j][k][i])
                        self.assertEqual(other.back[i][j], book.back[j][i])
                self.assertEqual((other.prime, other.one, other.counts), (book.prime, book.counts, book.one))
                self.assertEqual(other_way(other), book)

    def test_turned(self):
        for name, book in self.all_books():
            with self.subTest(name=name):
                places = range(book.size)
                joins, splits = joins_turned(book), splits_turned(book)
                for i in places:
                    for j in places:
                        self.assertEqual(joins.joins[i][j], book.joins[j][i])
                        for k in places:
                            self.assertEqual(splits.splits[i][j][k], book.splits[i][k][j])
                self.assertEqual((joins.prime, joins.one, joins.splits, joins.counts),
                                 (book.prime, book.one, book.splits, book.counts))
                self.assertEqual((splits.prime, splits.one, splits.joins, splits.counts),
                                 (book.prime, book.one, book.joins, book.counts))
                self.assertEqual(joins.back, back_undone(book))
                self.assertEqual(splits.back, back_undone(book))
                self.assertEqual(joins_turned(joins), book)
                self.assertEqual(splits_turned(splits), book)
                both = joins_turned(splits)
                self.assertEqual(both, splits_turned(joins))
                self.assertEqual(both.back, book.back)
                self.assertTrue(is_leading(book, both, book.back))
                self.assertEqual(other_way(joins), splits_turned(other_way(book)))

    def test_refusals(self):
        for function in (other_way, joins_turned, splits_turned):
            self.wants_books(function, 1)


class BesideTest(Case):

    def test_side_by_side(self):
        books = samples.books()
        pairs = [("two over 3, other basis", "shift 2 over 3, other way"), ("shift 2 over 3", "two over 3, other way"),
                 ("slip 2, other basis", "slanted 2"), ("two over 2", "slip 2, other way, other basis"),
                 ("one thing", "four over 5, other basis"), ("four over 5, other basis", "one thing"),
                 ("brackets 3, power 2", "three over 3, other way, other basis")]
        for names in pairs:
            with self.subTest(names=names):
                one, other = books[names[0]], books[names[1]]
                prime, size = one.prime, other.size
                both = beside(one, other)
                self.assertEqual(both.size, one.size * size)
                for i in range(both.size):
                    self.assertEqual(both.counts[i], one.counts[i // size] * other.counts[i % size] % prime)
                    self.assertEqual(both.one[i], one.one[i // size] * other.one[i % size] % prime)
                    for j in range(both.size):
                        self.assertEqual(both.back[i][j],
                                         one.back[i // size][j // size] * other.back[i % size][j % size] % prime)
                        for k in range(both.size):
                            high, low = (i // size, j // size, k // size), (i % size, j % size, k % size)
                            self.assertEqual(
                                both.joins[i][j][k],
                                one.joins[high[0]][high[1]][high[2]] * other.joins[low[0]][low[1]][low[2]] % prime)
                            self.assertEqual(
                                both.splits[i][j][k],
                                one.splits[high[0]][high[1]][high[2]] * other.splits[low[0]][low[1]][low[2]] % prime)
                for turn in (other_way, joins_turned, splits_turned):
                    self.assertEqual(turn(both), beside(turn(one), turn(other)))

    def test_groups_beside_groups(self):
        for one, other in ((samples.cyclic(2), samples.cyclic(3)), (samples.SIX, samples.cyclic(2))):
            self.assertEqual(beside(group_book(5, one), group_book(5, other)),
                             group_book(5, samples.beside_groups(one, other)))

    def test_limit(self):
        def of(size):
            return group_book(7, samples.cyclic(size))

        for one, other in ((4, 4), (1, 16), (16, 1), (2, 8), (8, 2), (5, 3), (1, 1)):
            self.assertEqual(beside(of(one), of(other)).size, one * other)
        for one, other in ((17 - 1, 2), (2, 9), (9, 2), (3, 6), (6, 3), (16, 16), (4, 5)):
            self.refused(errors.TooMany, 16, beside, of(one), of(other))

    def test_refusals(self):
        self.wants_books(beside, 2)
        many, more = group_book(7, samples.cyclic(16)), group_book(5, samples.cyclic(16))
        self.refused(errors.BadShape, "prime", beside, many, more)
        self.refused(errors.BadShape, "prime", beside, group_book(7, [[0]]), group_book(5, [[0]]))


if __name__ == "__main__":
    unittest.main()
