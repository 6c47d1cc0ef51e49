"""Points 90 and 91: product tables and doings."""

import functools
import itertools
import unittest

from splitbooks.bases import other_way
from splitbooks.doings import joined
from splitbooks.doingtables import (
    ProductTable, book_table, doing_fault, done, full_table, is_doing, is_table_leading, plain_doing, table_fault,
    turning_doing, unmoved)
from splitbooks.errors import BadBook, BadDoing, BadNumber, BadPrime, BadRow, BadShape, BadTable, TooMany
from splitbooks.families import group_book, shift_book
from splitbooks.leadings import is_leading
from splitbooks.rooms import own_room
from splitbooks.simples import middle
from splitbooks.smash import smash, smash_doing
from tests import dense, plainly, plainrooms, samples
from tests.helping import Case
from tests.roomsamples import maps_put, some_books
from tests.test_rooms import listed
from tests.test_turning import turned_plainly


def table_wrong(prime, joins, one):
    """What table_fault has to tell of tables of the right shapes."""
    things = samples.plain(len(joins))

    def put(x, y):
        return plainly.join(prime, joins, x, y)

    for i, x in enumerate(things):
        for j, y in enumerate(things):
            for k, z in enumerate(things):
                if put(put(x, y), z) != put(x, put(y, z)):
                    return ("joins", i, j, k)
    for i, x in enumerate(things):
        if put(one, x) != x or put(x, one) != x:
            return ("one", i)
    return None


def doing_wrong(book, table, doing):
    """What doing_fault has to tell of squares of the right sizes."""
    prime, things = book.prime, samples.plain(table.size)
    fault = plainrooms.room_wrong(book, doing)
    if fault is not None:
        return fault if fault[0] == "one" else ("joins",) + fault[1:]
    for i, square in enumerate(doing):
        if plainly.lead(prime, square, table.one) != tuple(book.counts[i] * n % prime for n in table.one):
            return ("counts", i)
    for i in range(book.size):
        for a in range(table.size):
            for b in range(table.size):
                total = [0] * table.size
                for p, q, number in plainrooms.pairs(book.splits[i]):
                    first = plainly.lead(prime, doing[p], things[a])
                    row = plainly.join(prime, table.joins, first, plainly.lead(prime, doing[q], things[b]))
                    total = [so_far + number * more for so_far, more in zip(total, row)]
                if plainly.lead(prime, doing[i], table.joins[a][b]) != tuple(number % prime for number in total):
                    return ("both", i, a, b)
    return None


def table_in_basis(table, rows):
    """The product table whose things stand for rows."""
    prime = table.prime
    undone = dense.undone(rows, prime)
    joins = [[plainly.lead(prime, undone, plainly.join(prime, table.joins, x, y)) for y in rows] for x in rows]
    return ProductTable(prime, joins, plainly.lead(prime, undone, table.one))


def doing_in_basis(doing, rows, prime):
    """The doing on the table whose things stand for rows."""
    undone = dense.undone(rows, prime)
    return [maps_put(prime, rows, square, undone) for square in doing]


def points_table(prime, many):
    """The product table of numbers at so many points."""
    joins = [[samples.unit(many, i) if i == j else (0,) * many for j in range(many)] for i in range(many)]
    return ProductTable(prime, joins, [1] * many)


@functools.lru_cache(None)
def some_doings():
    """(book, table, doing) by name."""
    found = {}
    for name, book in some_books().items():
        table = book_table(book)
        found[name + ": turning"] = (book, table, turning_doing(book))
        found[name + ": plain"] = (book, points_table(book.prime, 3), plain_doing(book, points_table(book.prime, 3)))
        if book.size <= 4:
            other = other_way(book)
            # Rows tell of second halves of things: on the table of the book.
            rows = [[[line[f] for line in square] for square in book.splits] for f in range(book.size)]
            found[name + ": rows"] = (other, table, rows)
            basis = samples.some_basis(book.size, book.prime, 12)
            basis = [[n % book.prime for n in row] for row in basis]
            found[name + ": turning in a basis"] = (book, table_in_basis(table, basis),
                                                    doing_in_basis(turning_doing(book), basis, book.prime))
        if book.size <= 3:
            found[name + ": rows on smash"] = (other, smash(book, table, turning_doing(book)),
                                               smash_doing(book, table, turning_doing(book)))
    # A group that moves points.
    six = group_book(5, samples.SIX)
    moves = [[samples.unit(6, samples.SIX[g][x]) for x in range(6)] for g in range(6)]
    found["six moves points"] = (six, points_table(5, 6), moves)
    two = group_book(3, samples.cyclic(2))
    found["two exchanges points"] = (two, points_table(3, 2), [[[1, 0], [0, 1]], [[0, 1], [1, 0]]])
    return found


class TablesTest(Case):

    def test_tables_of_books(self):
        for name, book in {**samples.more_books(), **samples.large_books()}.items():
            with self.subTest(name=name):
                table = book_table(book)
                self.assertIs(type(table), ProductTable)
                self.assertEqual(sorted(vars(table)), ["joins", "one", "prime", "size"])
                self.assertEqual((table.prime, table.size, table.joins, table.one),
                                 (book.prime, book.size, book.joins, book.one))
                self.assertIsNone(table_fault(book.prime, book.joins, book.one))

    def test_faults(self):
        told = {}
        for name, book in some_books().items():
            if book.size > 4 or book.prime > 5:
                continue
            n = book.size
            for i, j, k in itertools.product(range(n), repeat=3):
                joins = listed(book.joins)
                joins[i][j][k] += 1
                self.tell(told, book.prime, joins, list(book.one))
            for k in range(n):
                one = list(book.one)
                one[k] -= 1
                self.tell(told, book.prime, listed(book.joins), one)
        self.assertEqual(sorted(told, key=str), [None, "joins", "one"])
        self.assertGreater(min(told["joins"], told["one"]), 20)

    def tell(self, told, prime, joins, one):
        wanted = table_wrong(prime, joins, one)
        told[wanted and wanted[0]] = told.get(wanted and wanted[0], 0) + 1
        self.assertEqual(self.unchanged(table_fault, prime, joins, one), wanted)
        if wanted is None:
            self.assertEqual(ProductTable(prime, joins, one).size, len(one))
        else:
            self.refused(BadTable, wanted, ProductTable, prime, joins, one)

    def test_large_tables(self):
        table = full_table(points_table(97, 1), 6)
        self.assertEqual(table.size, 36)
        joins = listed(table.joins)
        self.assertIsNone(table_fault(97, joins, table.one))
        one = list(table.one)
        one[35] = 5
        self.assertEqual(table_fault(97, joins, one), ("one", 5))
        # Squares with one more square that is joined to nothing well.
        joins[35][35][0] = 1
        wanted = self.first_unlike(97, joins)
        self.assertEqual(table_fault(97, joins, table.one), wanted)
        self.refused(BadTable, wanted, ProductTable, 97, joins, table.one)

    def first_unlike(self, prime, joins):
        n = range(len(joins))
        for i in n:
            for j in n:
                for k in n:
                    first = plainly_few(prime, joins, joins[i][j], samples.unit(len(joins), k))
                    if first != plainly_few(prime, joins, samples.unit(len(joins), i), joins[j][k]):
                        return ("joins", i, j, k)
        return None

    def test_shapes(self):
        for value in samples.STRANGE + [1, 4, 101]:
            self.refused(BadPrime, None, table_fault, value, None, None)
            self.refused(BadPrime, None, ProductTable, value, None, None)
        wrong = samples.STRANGE + [[], [[1]], [[[1, 0]]], [[[1]], [[1]]], [[[1]], [[1, 0]]], [[[True]]], [[[1.0]]],
                                   [[None]], [[[1, 0], [0, 1]], [[0, 1], [1, True]]], {0: [[1]]},
                                   [[[0] * 37] * 37] * 37]
        for value in wrong:
            self.refused(BadShape, "joins", table_fault, 3, value, None)
            self.refused(BadShape, "joins", ProductTable, 3, value, None)
        for value in self.wrong_rows(2):
            self.refused(BadShape, "one", table_fault, 3, [[[0, 0]] * 2] * 2, value)
            self.refused(BadShape, "one", ProductTable, 3, [[[0, 0]] * 2] * 2, value)
        self.assertEqual(table_fault(3, [[[0] * 36] * 36] * 36, [0] * 36), ("one", 0))
        self.assertEqual(ProductTable(3, [[[4]]], (-2,)).joins, (((1,),),))

    def test_equal(self):
        book = group_book(3, samples.cyclic(2))
        table = book_table(book)
        self.assertEqual(table, book_table(group_book(3, samples.cyclic(2))))
        self.assertEqual(ProductTable(3, [[[4, 0], [0, 1]], [[0, -2], [1, 3]]], [1, 0]), table)
        self.assertNotEqual(table, book_table(group_book(5, samples.cyclic(2))))
        self.assertNotEqual(table, points_table(3, 2))
        for value in (book, None, table.joins, own_room(book), (table,)):
            self.assertFalse(table == value)

    def test_full(self):
        for table in (points_table(3, 1), book_table(group_book(5, samples.cyclic(2))), points_table(2, 3),
                      book_table(shift_book(97, 2, 96)), book_table(samples.books()["six over 2, other basis"])):
            prime, m = table.prime, table.size
            for wide in (1, 2, 3):
                if m * wide * wide > 36:
                    self.refused(TooMany, 36, full_table, table, wide)
                    continue
                found = full_table(table, wide)
                self.assertIs(type(found), ProductTable)
                self.assertEqual((found.prime, found.size), (prime, m * wide * wide))
                rows = samples.some_basis(found.size, prime, 2)[:3]
                for x, y in itertools.product(rows, repeat=2):
                    x, y = [n % prime for n in x], [n % prime for n in y]
                    wanted = [0] * found.size
                    for i, j, k in itertools.product(range(wide), repeat=3):
                        first = [x[(a * wide + i) * wide + k] for a in range(m)]
                        last = [y[(a * wide + k) * wide + j] for a in range(m)]
                        for c, number in enumerate(plainly.join(prime, table.joins, first, last)):
                            wanted[(c * wide + i) * wide + j] += number
                    self.assertEqual(plainly.join(prime, found.joins, x, y), tuple(n % prime for n in wanted))
                self.assertEqual(found.one, tuple(table.one[a] if i == j else 0 for a in range(m)
                                                  for i in range(wide) for j in range(wide)))
        self.assertEqual(full_table(points_table(3, 4), 3).size, 36)
        self.refused(TooMany, 36, full_table, points_table(3, 5), 3)
        self.refused(TooMany, 36, full_table, points_table(3, 1), 7)
        for value in samples.STRANGE + [0, -1, [1], "1"]:
            self.refused(BadNumber, "wide", full_table, points_table(3, 1), value)

    def test_table_leadings(self):
        both = {True: 0, False: 0}
        book, other = group_book(2, samples.cyclic(2)), other_way(group_book(2, samples.cyclic(2)))
        tables = [book_table(book), book_table(other), points_table(2, 1), points_table(2, 3),
                  full_table(points_table(2, 1), 2)]
        for one, two in itertools.product(tables, repeat=2):
            if 2 ** (one.size * two.size) > 5000:
                continue
            for numbers in itertools.product(range(2), repeat=one.size * two.size):
                rows = [numbers[k:k + two.size] for k in range(0, len(numbers), two.size)]
                told = self.leads(one, two, rows)
                both[told] += 1
                self.assertIs(is_table_leading(one, two, rows), told)
        self.assertGreater(min(both.values()), 15)

    def leads(self, one, two, rows):
        prime = one.prime
        return plainly.lead(prime, rows, one.one) == two.one and all(
            plainly.lead(prime, rows, one.joins[i][j]) == plainly.join(prime, two.joins, rows[i], rows[j])
            for i in range(one.size) for j in range(one.size))

    def test_table_leadings_of_books(self):
        for name, book in some_books().items():
            table, prime = book_table(book), book.prime
            basis = [[n % prime for n in row] for row in samples.some_basis(book.size, prime, 3)]
            with self.subTest(name=name):
                self.assertIs(is_table_leading(table_in_basis(table, basis), table, basis), True)
                self.assertIs(is_table_leading(table_in_basis(table, basis), table,
                                               [self.spelled(prime, row)[3] for row in basis]), True)
                for change in range(book.size ** 2):
                    worse = [list(row) for row in samples.plain(book.size)]
                    worse[change // book.size][change % book.size] += 1
                    self.assertIs(is_table_leading(table, table, worse), self.leads(table, table, worse))
                self.assertIs(is_table_leading(table, points_table(prime, 1), [[c] for c in book.counts]), True)
                self.assertTrue(is_leading(book, book, samples.plain(book.size)))

    def test_table_leadings_any_value(self):
        table = points_table(3, 2)
        for value in samples.STRANGE + self.wrong_squares(2) + [table, [[1, 0], [0, True]]]:
            self.assertIs(is_table_leading(table, table, value), False)
        self.assertIs(is_table_leading(table, table, ([4, 0], (3, -2))), True)
        for value in samples.STRANGE + [group_book(3, samples.cyclic(2)), [table], table.joins]:
            self.refused(BadTable, None, is_table_leading, value, points_table(5, 2), None)
            self.refused(BadTable, None, is_table_leading, table, value, None)
            self.refused(BadTable, None, full_table, value, None)
        self.refused(BadShape, "prime", is_table_leading, table, points_table(5, 2), None)
        self.wants_books(book_table, 1)
        self.refused(BadBook, None, book_table, table)


def plainly_few(prime, joins, x, y):
    """x joined to y, for rows of which hardly any number is not 0."""
    total = [0] * len(joins)
    for i, a in enumerate(x):
        for j, b in enumerate(y if a else ()):
            if b:
                total = [so_far + a * b * number for so_far, number in zip(total, joins[i][j])]
    return tuple(number % prime for number in total)


class DoingsTest(Case):

    def test_doings(self):
        for name, (book, table, doing) in some_doings().items():
            with self.subTest(name=name):
                self.assertIsNone(self.unchanged(doing_fault, book, table, listed(doing)))
                self.assertIs(is_doing(book, table, doing), True)
                if table.size * book.size <= 36:
                    self.assertIsNone(doing_wrong(book, table, doing))
                spelled = tuple([self.spelled(book.prime, row)[(k + i) % 4] for i, row in enumerate(square)]
                                for k, square in enumerate(doing))
                self.assertIsNone(doing_fault(book, table, spelled))

    def test_each_number_changed(self):
        told = {}
        for name, (book, table, doing) in some_doings().items():
            if table.size ** 2 * book.size > 48:
                continue
            for k, i, j in itertools.product(range(book.size), range(table.size), range(table.size)):
                changed = listed(doing)
                changed[k][i][j] += 1
                wanted = doing_wrong(book, table, changed)
                told[wanted and wanted[0]] = told.get(wanted and wanted[0], 0) + 1
                with self.subTest(name=name, place=(k, i, j)):
                    self.assertEqual(doing_fault(book, table, changed), wanted)
                    self.assertIs(is_doing(book, table, changed), wanted is None)
                    if wanted is not None:
                        self.refused(BadDoing, wanted, unmoved, book, table, changed)
                        self.refused(BadDoing, wanted, done, book, table, changed, None, None)
                        self.refused(BadDoing, wanted, smash, book, table, changed)
                        self.refused(BadDoing, wanted, smash_doing, book, table, changed)
        self.assertGreater(min(told["one"], told["joins"]), 20)

    def test_rooms_that_are_no_doings(self):
        """Squares that are a room, and lead one well or not, but not what is joined."""
        told = {}
        for name, book in {**some_books(), "two and two over 3": samples.books()["two and two over 3"],
                           "slip 2": samples.books()["slip 2"]}.items():
            n, prime = book.size, book.prime
            if n > 4:
                continue
            table = book_table(book)
            doings = [own_room(book).leads, turned_plainly(book), turning_doing(book)]
            for seed in range(3):
                rows = samples.some_basis(n, prime, seed)
                rows = [[number % prime for number in row] for row in rows]
                doings.append(doing_in_basis(turning_doing(book), rows, prime))
            # With one among the guests that stay.
            for seed in range(4):
                place = next(k for k, number in enumerate(book.one) if number)
                rows = [book.one] + [list(row) for k, row in enumerate(samples.plain(n)) if k != place]
                for k in range(1, n):
                    rows[k] = [(a + (seed + k) * b) % prime for a, b in zip(rows[k], rows[(k + seed) % (n - 1) + 1])]
                if plainly.rank(rows, prime) == n:
                    doings.append(doing_in_basis(turning_doing(book), rows, prime))
            for doing in doings:
                for where in (table, points_table(prime, n)):
                    wanted = doing_wrong(book, where, doing)
                    told[wanted and wanted[0]] = told.get(wanted and wanted[0], 0) + 1
                    told[wanted] = True
                    with self.subTest(name=name):
                        self.assertEqual(doing_fault(book, where, doing), wanted)
        self.assertGreater(min(told["counts"], told["both"]), 10)
        self.assertGreater(len(told), 7)

    def test_late_faults(self):
        """What a later thing does to later things of the table."""
        table = points_table(3, 5)
        plain, swap = [list(row) for row in samples.plain(5)], [list(row) for row in samples.plain(5)]
        swap[0], swap[1] = swap[1], swap[0]
        bad = [list(row) for row in swap]
        bad[2][2], bad[3][2], bad[4][2] = -1, 1, 1
        two, four = group_book(3, samples.cyclic(2)), group_book(3, samples.FOUR)
        cases = [(two, [plain, swap], None), (two, [plain, bad], ("both", 1, 2, 2)),
                 (four, [plain, swap, plain, swap], None), (four, [plain, swap, bad, maps_put(3, swap, bad)], ("both", 2, 2, 2)),
                 (four, [plain, bad, swap, maps_put(3, bad, swap)], ("both", 1, 2, 2))]
        less = [[2 * n if k == 4 else n for n in row] for k, row in enumerate(swap)]
        cases.append((four, [plain, swap, less, maps_put(3, swap, less)], ("counts", 2)))
        for book, doing, wanted in cases:
            self.assertEqual(doing_wrong(book, table, doing), wanted)
            self.assertEqual(doing_fault(book, table, doing), wanted)

    def test_shape(self):
        book, table = group_book(3, samples.cyclic(2)), points_table(3, 2)
        good = plain_doing(book, table)
        self.assertIsNone(doing_fault(book, table, good))
        wrong = samples.STRANGE + [[], good[:1], good + good[:1], [[[1]], [[1]]], [[[1, 0]], [[1, 0]]], [good[0], None],
                                   [good[0], [[1, 0], [0, True]]], [good[0], [[1, 0], [0, 1.0]]], {0: good[0], 1: good[1]},
                                   good[0], [good[0], [[1, 0], "ab"]], table]
        for value in wrong:
            self.assertEqual(doing_fault(book, table, value), ("shape",))
            self.assertIs(is_doing(book, table, value), False)
            self.refused(BadDoing, ("shape",), unmoved, book, table, value)
            self.refused(BadDoing, ("shape",), done, book, table, value, None, None)

    def test_order_of_refusals(self):
        book, table = group_book(3, samples.cyclic(2)), points_table(5, 2)
        for value in samples.STRANGE + [[book], points_table(3, 2)]:
            self.refused(BadBook, None, doing_fault, value, None, None)
            self.refused(BadBook, None, is_doing, value, value, None)
            self.refused(BadBook, None, plain_doing, value, table)
            self.refused(BadBook, None, unmoved, value, table, None)
            self.refused(BadBook, None, turning_doing, value)
            self.refused(BadBook, None, done, value, table, None, None, None)
            if type(value) is not ProductTable:
                self.refused(BadTable, None, doing_fault, book, value, None)
                self.refused(BadTable, None, is_doing, book, value, None)
                self.refused(BadTable, None, plain_doing, book, value)
                self.refused(BadTable, None, unmoved, book, value, None)
                self.refused(BadTable, None, done, book, value, None, None, None)
        self.refused(BadTable, None, doing_fault, book, book, None)
        for function in (doing_fault, is_doing, unmoved):
            self.refused(BadShape, "prime", function, book, table, None)
        self.refused(BadShape, "prime", plain_doing, book, table)
        self.refused(BadShape, "prime", done, book, table, None, None, None)

    def test_done(self):
        for name, (book, table, doing) in some_doings().items():
            prime = book.prime
            with self.subTest(name=name):
                for x in samples.some_things(book, 2, 4):
                    a = samples.some_basis(table.size, prime, 4)[0]
                    wanted = plainrooms.led(prime, doing, x, [n % prime for n in a])
                    found = self.unchanged(done, book, table, doing, list(x), a)
                    self.numbers_within(prime, found, 1)
                    self.assertEqual(found, wanted)
                    self.assertEqual(done(book, table, doing, self.spelled(prime, x)[1], self.spelled(prime, a)[3]), wanted)
        book, table = group_book(3, samples.cyclic(2)), points_table(3, 3)
        doing = plain_doing(book, table)
        for value in self.wrong_rows(2):
            self.refused(BadRow, None, done, book, table, doing, value, None)
        for value in self.wrong_rows(3):
            self.refused(BadRow, None, done, book, table, doing, (1, 0), value)

    def test_unmoved(self):
        for name, (book, table, doing) in some_doings().items():
            prime = book.prime
            with self.subTest(name=name):
                found = self.unchanged(unmoved, book, table, doing)
                self.is_tidy(prime, table.size, found)
                self.assertTrue(plainly.is_sum(table.one, found, prime))
                for a, b in itertools.product(found, repeat=2):
                    self.assertTrue(plainly.is_sum(plainly.join(prime, table.joins, a, b), found, prime))
                if prime ** table.size <= 130:
                    for a in samples.all_rows(prime, table.size):
                        told = all(plainly.lead(prime, square, a) == tuple(c * n % prime for n in a)
                                   for c, square in zip(book.counts, doing))
                        self.assertIs(plainly.is_sum(a, found, prime), told)
                self.keeps_lists(unmoved, book, table, doing)

    def test_plain_and_turning(self):
        for name, book in samples.more_books().items():
            table = points_table(book.prime, 2)
            with self.subTest(name=name):
                doing = plain_doing(book, table)
                self.assertEqual(doing, tuple(((c, 0), (0, c)) for c in book.counts))
                self.assertIsNone(doing_fault(book, table, doing))
                self.assertEqual(unmoved(book, table, doing), [(1, 0), (0, 1)])
                doing = turning_doing(book)
                self.numbers_within(book.prime, doing, 3)
                if book.size <= 6:
                    self.assertEqual(doing, turned_plainly(book))
                self.assertIsNone(doing_fault(book, book_table(book), doing))
                self.assertEqual(unmoved(book, book_table(book), doing), middle(book))
        six = group_book(5, samples.SIX)
        for g, x in itertools.product(range(6), repeat=2):
            wanted = samples.SIX[samples.SIX[g][x]][samples.SIX[g].index(0)]
            self.assertEqual(turning_doing(six)[g][x], samples.unit(6, wanted))
        self.assertEqual(joined(six, six.one, six.one), six.one)


if __name__ == "__main__":
    unittest.main()
