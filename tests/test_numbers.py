"""Points 64 and 65: how often simple kinds come in hulls, and beside one another."""

import unittest

from splitbooks.bases import in_basis, other_way
from splitbooks.doings import backed, joined
from splitbooks.families import group_book
from splitbooks.kinds import simple_kinds, simple_leads
from splitbooks.numbers import beside_numbers, hull_numbers, kind_things, turned_kinds
from splitbooks.simples import falls_apart, walls_of
from tests import plainly, samples
from tests.helping import Case
from tests.test_forms import added, all_books
from tests.test_kinds import square_of
from tests.test_swallowed import put, tell


def beside_rank(book, thing, first, second):
    """The number of independent rows that a thing makes of pairs of rows, half by half."""
    prime = book.prime
    halves = plainly.split(prime, book.splits, thing)
    rows = []
    for g in range(len(first[0])):
        for h in range(len(second[0])):
            total = [[0] * len(second[0]) for _ in first[0]]
            for a, line in enumerate(halves):
                for b, number in enumerate(line):
                    if number:
                        for x, one in enumerate(first[a][g]):
                            for y, other in enumerate(second[b][h]):
                                total[x][y] += number * one * other
            rows.append([number % prime for row in total for number in row])
    return plainly.rank(rows, prime)


class NumbersTest(Case):

    def test_kind_things(self):
        for name, book in all_books().items():
            prime, size = book.prime, book.size
            with self.subTest(name=name):
                things, leads = kind_things(book), simple_leads(book)
                self.assertEqual((type(things), len(things)), (list, len(leads)))
                for at, x in enumerate(things):
                    self.numbers_within(prime, x, 1)
                    for other, y in enumerate(things):
                        self.assertEqual(put(book, x, y), x if at == other else (0,) * size)
                    for other, some in enumerate(leads):
                        many = len(some[0])
                        wanted = [[int(g == h and at == other) for h in range(many)] for g in range(many)]
                        self.assertEqual(square_of(prime, some, x), wanted)
                self.assertEqual(added(prime, things, size), book.one)
                self.assertEqual(kind_things(book), things)

    def test_hull_numbers_by_ranks(self):
        for name, book in all_books().items():
            if book.size > 9:
                continue
            with self.subTest(name=name):
                things, kinds, numbers = kind_things(book), simple_kinds(book), hull_numbers(book)
                self.numbers_whole(numbers, 2)
                for i, e in enumerate(things):
                    for k, f in enumerate(things):
                        rows = [put(book, put(book, f, x), e) for x in samples.plain(book.size)]
                        many = kinds[k][0] * (kinds[i][0] // kinds[i][1])
                        self.assertEqual(divmod(plainly.rank(rows, book.prime), many), (numbers[i][k], 0))

    def test_beside_numbers_by_ranks(self):
        for name, book in all_books().items():
            leads, kinds, numbers = simple_leads(book), simple_kinds(book), beside_numbers(book)
            self.numbers_whole(numbers, 3)
            if book.size > 8:
                continue
            things = kind_things(book)
            with self.subTest(name=name):
                for i, first in enumerate(leads):
                    for j, second in enumerate(leads):
                        for k, thing in enumerate(things):
                            rank = beside_rank(book, thing, first, second)
                            self.assertEqual(divmod(rank, kinds[k][0]), (numbers[i][j][k], 0))

    def numbers_whole(self, value, depth):
        if depth == 0:
            self.assertIs(type(value), int)
            self.assertGreaterEqual(value, 0)
            return
        self.assertIs(type(value), tuple)
        for part in value:
            self.numbers_whole(part, depth - 1)

    def test_turned_kinds(self):
        for name, book in all_books().items():
            with self.subTest(name=name):
                rows = [row for _, _, row in simple_kinds(book)]
                found = turned_kinds(book)
                self.assertIs(type(found), list)
                self.assertEqual(sorted(found), list(range(len(rows))))
                for i, k in enumerate(found):
                    for x in samples.plain(book.size):
                        self.assertEqual(tell(book, rows[k], x), tell(book, rows[i], backed(book, x)))

    def test_rows_joined_the_other_way(self):
        for name, book in samples.more_books().items():
            if book.size <= 6:
                other = other_way(book)
                rows = [row for _, _, row in simple_kinds(book)]
                with self.subTest(name=name):
                    for i, line in enumerate(beside_numbers(book)):
                        for j, numbers in enumerate(line):
                            wanted = plainly.lead(book.prime, rows, numbers)
                            self.assertEqual(joined(other, rows[i], rows[j]), wanted)

    def test_beside_numbers(self):
        for name, book in all_books().items():
            kinds, n, t = simple_kinds(book), beside_numbers(book), turned_kinds(book)
            many = range(len(kinds))
            sizes = [size for size, _, _ in kinds]
            u = kinds.index((1, 1, book.counts))
            with self.subTest(name=name):
                for i in many:
                    for j in many:
                        self.assertEqual((n[u][i][j], n[i][u][j]), (int(i == j), int(i == j)))
                        self.assertEqual(sum(n[i][j][k] * sizes[k] for k in many), sizes[i] * sizes[j])
                        for k in many:
                            self.assertEqual(n[i][j][k], n[t[j]][t[i]][t[k]])
                            first = [sum(n[i][j][m] * n[m][k][s] for m in many) for s in many]
                            self.assertEqual(first, [sum(n[j][k][m] * n[i][m][s] for m in many) for s in many])

    def test_hull_numbers(self):
        for name, book in all_books().items():
            kinds, c, n, t = simple_kinds(book), hull_numbers(book), beside_numbers(book), turned_kinds(book)
            many = range(len(kinds))
            sizes, degrees = [kind[0] for kind in kinds], [kind[1] for kind in kinds]
            u = kinds.index((1, 1, book.counts))
            with self.subTest(name=name):
                self.assertEqual(sum(sizes[i] // degrees[i] * c[i][k] * sizes[k] for i in many for k in many), book.size)
                for i in many:
                    for j in many:
                        parts = [divmod(n[k][t[j]][i] * degrees[i], degrees[k]) for k in many]
                        self.assertEqual([rest for _, rest in parts], [0] * len(kinds))
                        first = [sum(c[i][m] * n[m][j][s] for m in many) for s in many]
                        self.assertEqual(first, [sum(parts[k][0] * c[k][s] for k in many) for s in many])
                self.assertIs(c[u] == samples.unit(len(kinds), u), falls_apart(book))
                if falls_apart(book):
                    self.assertEqual(c, samples.plain(len(kinds)))

    def test_walls_and_hulls(self):
        for name, book in all_books().items():
            leads, c = simple_leads(book), hull_numbers(book)
            with self.subTest(name=name):
                walls = walls_of(book)
                of_kind = [[at for at, wall in enumerate(walls) if any(map(any, square_of(book.prime, some, wall)))]
                           for some in leads]
                self.assertEqual([len(some) for some in of_kind], [1] * len(leads))
                reach = list(range(len(leads)))
                for _ in leads:
                    for a in range(len(leads)):
                        for b in range(len(leads)):
                            if c[a][b] or c[b][a]:
                                reach[a] = reach[b] = min(reach[a], reach[b])
                for i in range(len(leads)):
                    for k in range(len(leads)):
                        self.assertIs(of_kind[i] == of_kind[k], reach[i] == reach[k])

    def test_in_any_basis(self):
        for name in ("three over 2", "six over 2", "six over 3", "slanted 3", "shift 2 over 3", "five over 2"):
            book = samples.more_books()[name]
            rows = samples.some_basis(book.size, book.prime, 8)
            other = in_basis(book, rows)
            told = [tuple(sum(a * b for a, b in zip(row, line)) % book.prime for line in rows)
                    for _, _, row in simple_kinds(book)]
            order = [[row for _, _, row in simple_kinds(other)].index(row) for row in told]
            places = range(len(order))
            c, d = hull_numbers(book), hull_numbers(other)
            self.assertEqual([[d[order[i]][order[k]] for k in places] for i in places], [list(row) for row in c])
            n, m = beside_numbers(book), beside_numbers(other)
            for i in places:
                for j in places:
                    self.assertEqual([m[order[i]][order[j]][order[k]] for k in places], list(n[i][j]))
            self.assertEqual([turned_kinds(other)[order[i]] for i in places], [order[k] for k in turned_kinds(book)])

    def test_large_kinds(self):
        # Thirteen turns over 2: the kind of size 12 beside itself has one 12 times, itself 11 times.
        book = group_book(2, samples.cyclic(13))
        self.assertEqual([kind[:2] for kind in simple_kinds(book)], [(1, 1), (12, 12)])
        self.assertEqual(beside_numbers(book)[1][1], (12, 11))
        book = group_book(2, samples.cyclic(11))
        self.assertEqual(beside_numbers(book)[1][1], (10, 9))

    def test_by_hand(self):
        book = group_book(2, samples.cyclic(3))
        self.assertEqual(beside_numbers(book)[1][1], (2, 1))
        self.assertEqual(hull_numbers(group_book(2, samples.cyclic(4))), ((4,),))

    def test_refusals_and_lists(self):
        for function in (kind_things, hull_numbers, beside_numbers, turned_kinds):
            self.wants_books(function, 1)
        for function in (kind_things, turned_kinds):
            self.keeps_lists(function, group_book(2, samples.cyclic(3)))


if __name__ == "__main__":
    unittest.main()
