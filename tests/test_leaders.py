"""Point 54: leading things and even forms."""

import itertools
import unittest

from splitbooks.doings import backed, joined
from splitbooks.errors import BadMap
from splitbooks.families import group_book, shift_book, slip_book
from splitbooks.forms import is_form
from splitbooks.leaders import even_form, leading_thing, selfsplit_leaders, square_leader
from splitbooks.selfsplit import selfsplit_things
from splitbooks.simples import walls_of
from splitbooks.strands import thing_undone
from splitbooks.swallowed import shift_row
from tests import plainly, samples
from tests.helping import Case
from tests.test_forms import all_books


def leads(book, u, rows):
    """Whether u can be undone and leads as the map tells."""
    prime = book.prime
    return thing_undone(book, u) is not None and all(
        plainly.join(prime, book.joins, u, x) == plainly.join(prime, book.joins, plainly.lead(prime, rows, x), u)
        for x in samples.plain(book.size))


def led_by(book, u):
    """The map that leads each x to u joined to x joined to what undoes u."""
    undone = thing_undone(book, u)
    return tuple(joined(book, joined(book, u, x), undone) for x in samples.plain(book.size))


def twice_back(book):
    return tuple(backed(book, row) for row in book.back)


class LeadersTest(Case):

    def test_maps_of_things(self):
        seen = 0
        for name, book in all_books().items():
            for x in samples.some_things(book, 6, 9) + [book.one]:
                if thing_undone(book, x) is None:
                    continue
                rows = led_by(book, x)
                with self.subTest(name=name):
                    found = self.unchanged(leading_thing, book, [list(row) for row in rows])
                    self.assertIsNotNone(found)
                    self.numbers_within(book.prime, found, 1)
                    self.assertTrue(leads(book, found, rows))
                    self.assertEqual(found, leading_thing(book, [self.spelled(book.prime, row)[3] for row in rows]))
                    seen += rows != samples.plain(book.size)
        self.assertGreater(seen, 60)

    def test_all_maps_of_small_books(self):
        """None just where no thing leads the map."""
        both = {True: 0, False: 0}
        for name, book in samples.more_books().items():
            if book.size > 2 or book.prime > 3:
                continue
            things = [x for x in samples.all_rows(book.prime, book.size) if thing_undone(book, x) is not None]
            for rows in itertools.product(samples.all_rows(book.prime, book.size), repeat=book.size):
                told = any(leads(book, u, rows) for u in things)
                both[told] += 1
                found = leading_thing(book, rows)
                with self.subTest(name=name, rows=rows):
                    self.assertIs(found is not None, told)
                    if told:
                        self.assertTrue(leads(book, found, rows))
        self.assertGreater(min(both.values()), 20)

    def test_things_of_larger_books(self):
        """Maps that keep joins: of groups those of turns about, and others that no thing leads."""
        both = {True: 0, False: 0}
        for prime, table in ((2, samples.SIX), (5, samples.SIX), (3, samples.FOUR), (3, samples.EIGHT),
                             (2, samples.cyclic(5)), (3, samples.QUATERNIONS)):
            book = group_book(prime, table)
            n = len(table)
            for images in self.group_maps(table):
                rows = [samples.unit(n, k) for k in images]
                told = leading_thing(book, rows) is not None
                both[told] += 1
                if prime ** n <= 300:
                    things = (x for x in samples.all_rows(prime, n) if thing_undone(book, x) is not None)
                    self.assertIs(any(leads(book, u, rows) for u in things), told)
                if told:
                    self.assertTrue(leads(book, leading_thing(book, rows), rows))
                inner = [[table[table[g][x]][table[g].index(0)] for x in range(n)] for g in range(n)]
                if list(images) in inner:
                    self.assertTrue(told)
        self.assertGreater(min(both.values()), 5)

    def group_maps(self, table):
        """A few maps of the things of a group that keep joins."""
        n = len(table)
        found = []
        makers = [x for x in range(n)][1:4]
        for images in itertools.product(range(1, n), repeat=2):
            led = {0: 0, makers[0]: images[0], makers[1]: images[1]}
            for _ in range(4):
                for x in list(led):
                    for y in list(led):
                        led.setdefault(table[x][y], table[led[x]][led[y]])
            rows = [led.get(x) for x in range(n)]
            if sorted(row for row in rows if row is not None) == list(range(n)) and all(
                    rows[table[x][y]] == table[rows[x]][rows[y]] for x in range(n) for y in range(n)):
                found.append(rows)
        return found[:30]

    def test_plain_map_and_others(self):
        for name, book in all_books().items():
            with self.subTest(name=name):
                plain = samples.plain(book.size)
                self.assertTrue(leads(book, leading_thing(book, plain), plain))
                self.assertIsNone(leading_thing(book, [[0] * book.size] * book.size))
                if book.size > 1:
                    # The sum of two like maps keeps no joins.
                    self.assertIsNone(leading_thing(book, [[2 * n + (i == 0) for n in row] for i, row in enumerate(plain)]))

    def test_refused(self):
        book = group_book(3, samples.cyclic(2))
        for value in self.wrong_squares(2):
            self.refused(BadMap, None, leading_thing, book, value)
        self.wants_books(leading_thing, 1, [[1]])
        for function in (square_leader, selfsplit_leaders, even_form):
            self.wants_books(function, 1)

    def test_square_leader(self):
        both = {True: 0, False: 0}
        for name, book in all_books().items():
            rows = twice_back(book)
            found = square_leader(book)
            both[found is not None] += 1
            with self.subTest(name=name):
                self.assertEqual(found, leading_thing(book, rows))
                self.assertEqual(found, square_leader(book))
                if found is not None:
                    self.numbers_within(book.prime, found, 1)
                    self.assertTrue(leads(book, found, rows))
                elif book.prime ** book.size <= 300:
                    self.assertFalse(any(leads(book, u, rows) for u in samples.all_rows(book.prime, book.size)))
        self.assertGreater(both[True], 100)

    def test_selfsplit_leaders(self):
        for name, book in all_books().items():
            rows = twice_back(book)
            with self.subTest(name=name):
                found = selfsplit_leaders(book)
                things = selfsplit_things(book)
                self.assertEqual(found, [g for g in things if leads(book, g, rows)])
                central = [g for g in things if all(joined(book, g, x) == joined(book, x, g)
                                                    for x in samples.plain(book.size))]
                self.assertIn(len(found), (0, len(central)))
                self.keeps_lists(selfsplit_leaders, book)

    def test_selfsplit_leaders_of_families(self):
        for book, order in ((shift_book(5, 2, 4), 2), (shift_book(7, 3, 2), 3), (shift_book(5, 4, 2), 4), (slip_book(2), 2),
                            (slip_book(3), 3), (shift_book(97, 2, 96), 2)):
            g = samples.unit(book.size, order)
            product = book.one
            for _ in range(order - 1):
                product = joined(book, product, g)
            self.assertEqual(selfsplit_leaders(book), [product])
        for name in ("slanted 3", "level", "brackets 5", "brackets 2, power 1"):
            self.assertEqual(selfsplit_leaders(samples.families()[name]), [samples.families()[name].one])

    def test_no_selfsplit_leaders(self):
        """A book whose back twice is not plain, and no selfsplit thing leads it."""
        seen = [name for name, book in all_books().items() if selfsplit_leaders(book) == []]
        for name in seen:
            self.assertNotEqual(twice_back(all_books()[name]), samples.plain(all_books()[name].size))

    def test_even_form(self):
        both = {True: 0, False: 0}
        for name, book in all_books().items():
            with self.subTest(name=name):
                found = even_form(book)
                both[found is not None] += 1
                self.assertEqual(found, even_form(book))
                wanted = shift_row(book) == book.counts and square_leader(book) is not None
                self.assertIs(found is not None, wanted)
                if found is not None:
                    self.numbers_within(book.prime, found, 2)
                    self.assertTrue(is_form(book, found))
                    self.assertEqual(found, tuple(zip(*found)))
        self.assertGreater(min(both.values()), 20)
        for book in (shift_book(5, 2, 4), shift_book(7, 3, 2), slip_book(2), slip_book(3)):
            self.assertIsNone(even_form(book))

    def test_no_even_form_at_all(self):
        for name, book in samples.small_books(130).items():
            if book.size <= 4 and even_form(book) is None:
                forms = 0
                for row in samples.all_rows(book.prime, book.size):
                    square = [[plainly.count(book.prime, row, book.joins[i][j]) for j in range(book.size)]
                              for i in range(book.size)]
                    forms += square == [list(line) for line in zip(*square)] and plainly.rank(
                        square, book.prime) == book.size
                with self.subTest(name=name):
                    self.assertEqual(forms, 0)

    def test_several_walls(self):
        """A thing is put together of what leads within each of several walls."""
        seen = 0
        for name in ("six over 5", "quaternions over 3", "six over 97", "eight over 3"):
            book = {**all_books(), "eight over 3": group_book(3, samples.EIGHT)}[name]
            self.assertGreater(len(walls_of(book)), 1)
            for wall in walls_of(book):
                # Undone within one wall, and one elsewhere.
                x = tuple((2 * w + o - w) % book.prime for w, o in zip(wall, book.one))
                for y in samples.some_things(book, 40, 3):
                    if thing_undone(book, y) is not None:
                        rows = led_by(book, joined(book, x, y))
                        seen += 1
                        self.assertTrue(leads(book, leading_thing(book, rows), rows))
                        break
        self.assertGreater(seen, 5)


if __name__ == "__main__":
    unittest.main()
