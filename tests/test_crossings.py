"""Point 101: crossings."""

import functools
import itertools
import unittest

from splitbooks.bases import in_basis, other_way, splits_turned
from splitbooks.crossings import crossing_undone, crossings, is_crossing
from splitbooks.doings import squares_joined
from splitbooks.doubles import double, double_crossing
from splitbooks.errors import BadCrossing, TooMany
from splitbooks.families import group_book, shift_book
from splitbooks.leadings import leadings_between
from tests import dense, plainly, plainrooms, samples
from tests.helping import Case


def undone_plainly(book, square):
    """The square that, joined to it half by half, is the pair of one and one; None if there is none."""
    prime, n = book.prime, book.size
    places = range(n)
    equations = [[] for _ in range(n * n)]
    for c in places:
        for d in places:
            pair = plainly.pair(prime, samples.unit(n, c), samples.unit(n, d))
            for at, number in enumerate(itertools.chain(*plainly.join_squares(prime, book.joins, square, pair))):
                equations[at].append(number)
    for at, number in enumerate(itertools.chain(*plainly.pair(prime, book.one, book.one))):
        equations[at].append(number)
    numbers = plainly.solved(equations, n * n, prime)
    return None if numbers is None else tuple(tuple(numbers[k:k + n]) for k in range(0, n * n, n))


def crosses(book, square):
    """Whether a square is a crossing, by each sentence of the document."""
    prime, n = book.prime, book.size
    things = samples.plain(n)
    square = tuple(tuple(number % prime for number in row) for row in square)
    undone = undone_plainly(book, square)
    one = plainly.pair(prime, book.one, book.one)
    if undone is None or plainly.join_squares(prime, book.joins, undone, square) != one:
        return False
    for x in things:
        halves = plainly.split(prime, book.splits, x)
        turned = tuple(zip(*halves))
        if plainly.join_squares(prime, book.joins, square, halves) != plainly.join_squares(
                prime, book.joins, turned, square):
            return False
    pairs = plainrooms.pairs(square)
    for first in (True, False):
        wanted, found = {}, {}
        for a, b, number in pairs:
            halves = plainrooms.pairs(book.splits[a if first else b])
            for p, q, more in halves:
                key = (p, q, b) if first else (a, p, q)
                found[key] = (found.get(key, 0) + number * more) % prime
            for c, d, more in pairs:
                for m, other in enumerate(book.joins[b][d] if first else book.joins[a][c]):
                    key = (a, c, m) if first else (m, d, b)
                    wanted[key] = (wanted.get(key, 0) + number * more * other) % prime
        if {k: n for k, n in found.items() if n} != {k: n for k, n in wanted.items() if n}:
            return False
    return True


def led_square(prime, rows, square):
    """The square with both halves led by a map."""
    return plainly.lead_halves(prime, square, rows, rows)


@functools.lru_cache(None)
def crossed_books():
    """(book, crossing) by a name: books that crossings finds some of, and doubles."""
    found = {}
    for name, book in samples.more_books().items():
        if book.size <= 4 and book.prime ** ((book.size - 1) ** 2) <= 20000:
            for at, square in enumerate(crossings(book)[:4]):
                found[f"{name}: {at}"] = (book, square)
        if book.size == 2 or (book.size == 3 and "other basis" in name):
            found[f"double of {name}"] = (double(book), double_crossing(book))
    book = shift_book(5, 2, 4)
    found["double of shift"] = (double(book), double_crossing(book))
    rows = samples.some_basis(4, 5)
    whole = double(group_book(5, samples.cyclic(2)))
    undone = dense.undone(rows, 5)
    square = led_square(5, undone, double_crossing(group_book(5, samples.cyclic(2))))
    found["double in a basis"] = (in_basis(whole, rows), square)
    six = group_book(7, samples.cyclic(6))
    found["six turns, plain"] = (six, plainly.pair(7, six.one, six.one))
    return found


class CrossingsTest(Case):

    def test_all_squares(self):
        """Of small books all squares are looked at."""
        both = {True: 0, False: 0}
        for name, book in samples.more_books().items():
            if book.size == 1 or (book.size == 2 and book.prime <= 5):
                wanted = []
                for numbers in itertools.product(range(book.prime), repeat=book.size ** 2):
                    square = [numbers[k:k + book.size] for k in range(0, len(numbers), book.size)]
                    told = crosses(book, square)
                    both[told] += 1
                    self.assertIs(is_crossing(book, square), told)
                    if told:
                        wanted.append(tuple(tuple(row) for row in square))
                with self.subTest(name=name):
                    self.assertEqual(crossings(book), wanted)
        self.assertGreater(min(both.values()), 20)

    def test_crossings(self):
        counts = {}
        for name, book in samples.more_books().items():
            if book.size > 4 or book.prime ** ((book.size - 1) ** 2) > 20000:
                continue
            with self.subTest(name=name):
                found = crossings(book)
                counts[len(found)] = name
                self.assertEqual(found, sorted(found))
                self.assertEqual(len(set(found)), len(found))
                for square in found:
                    self.numbers_within(book.prime, square, 2)
                    self.assertIs(is_crossing(book, square), True)
                for square in found[:3]:
                    self.assertTrue(crosses(book, square))
                    turned = tuple(zip(*square))
                    self.assertIn(crossing_undone(book, turned) if is_crossing(book, turned) else square, found)
                self.keeps_lists(crossings, book)
        self.assertIn(0, counts)
        self.assertGreater(max(counts), 10)

    def test_known_crossings(self):
        # Of the group of n turns, all roots of 1 modulo the prime: as many as roots that n times are 1.
        for prime, n, many in ((7, 3, 3), (3, 2, 2), (5, 3, 1), (2, 3, 1), (97, 2, 2), (11, 3, 1), (3, 3, 1), (7, 2, 2)):
            book = group_book(prime, samples.cyclic(n))
            self.assertEqual(len(crossings(book)), many)
            self.assertEqual(len(crossings(in_basis(book, samples.some_basis(n, prime)))), many)
        # Of two and two over 3 each of 2 * 2 numbers 1 or -1; of a shift_book of order 2 there are as many as numbers.
        self.assertEqual(len(crossings(group_book(3, samples.FOUR))), 16)
        self.assertEqual(len(crossings(shift_book(3, 2, 2))), 3)
        # Rows of things joined unlike in both sequences have none.
        self.assertEqual(crossings(other_way(samples.books()["slanted 2"])), [])

    def test_crossings_in_a_basis(self):
        for name in ("shift 2 over 3", "two over 3", "brackets 3, power 0", "slip 2"):
            book = samples.books()[name]
            rows = samples.some_basis(book.size, book.prime, 8)
            undone = dense.undone(rows, book.prime)
            self.assertEqual(crossings(in_basis(book, rows)),
                             sorted(led_square(book.prime, undone, square) for square in crossings(book)))

    def test_one_number_changed(self):
        seen = 0
        for name, (book, square) in crossed_books().items():
            if book.size > 4:
                continue
            with self.subTest(name=name):
                self.assertTrue(crosses(book, square))
                for j in range(book.size):
                    for k in range(book.size):
                        worse = [list(row) for row in square]
                        worse[j][k] += 1
                        told = crosses(book, worse) if book.size <= 2 or (j + k) % 3 == 0 else is_crossing(book, worse)
                        self.assertIs(is_crossing(book, worse), told)
                        if not told:
                            seen += 1
                            self.refused(BadCrossing, None, crossing_undone, book, worse)
        self.assertGreater(seen, 200)

    def test_each_sentence_alone(self):
        """Squares for which all is so but one sentence."""
        book = samples.books()["shift 2 over 3"]
        one = plainly.pair(3, book.one, book.one)
        # The pair of one and one splits and can be undone, but exchanges no halves.
        self.assertFalse(crosses(book, one))
        self.assertIs(is_crossing(book, one), False)
        # 0 exchanges, splits well and cannot be undone.
        for other in (book, group_book(3, samples.cyclic(2))):
            self.assertIs(is_crossing(other, [[0] * other.size] * other.size), False)
        # In a book that may be exchanged and whose halves may be, any square exchanges.
        two = group_book(3, samples.cyclic(2))
        for square in itertools.product(itertools.product(range(3), repeat=2), repeat=2):
            self.assertIs(is_crossing(two, square), crosses(two, square))
        # Halves the wrong way round split the wrong way: of the double the turned crossing is none, undone it is one.
        book = shift_book(5, 2, 4)
        whole, square = double(book), double_crossing(book)
        turned = tuple(zip(*square))
        self.assertIs(is_crossing(whole, square), True)
        self.assertIs(is_crossing(whole, turned), False)

    def test_leadings_from_rows(self):
        """All that splits well, of which some squares exchange the halves of splits and some do not."""
        both = {True: 0, False: 0}
        for name in ("shift 2 over 3", "slip 2", "slanted 2", "slanted 2, other way", "two and two over 3, other way",
                     "four over 2", "slip 2, other way, other basis"):
            book = samples.more_books()[name]
            for square in leadings_between(splits_turned(other_way(book)), book)[:12]:
                told = crosses(book, square)
                both[told] += 1
                with self.subTest(name=name, square=square):
                    self.assertIs(is_crossing(book, square), told)
        self.assertGreater(min(both.values()), 3)

    def test_undone(self):
        for name, (book, square) in crossed_books().items():
            prime = book.prime
            one = plainly.pair(prime, book.one, book.one)
            with self.subTest(name=name):
                self.assertIs(is_crossing(book, square), True)
                undone = self.unchanged(crossing_undone, book, [list(row) for row in square])
                self.numbers_within(prime, undone, 2)
                self.assertEqual(squares_joined(book, square, undone), one)
                self.assertEqual(squares_joined(book, undone, square), one)
                spelled = [self.spelled(prime, row)[k % 4] for k, row in enumerate(square)]
                self.assertIs(is_crossing(book, spelled), True)
                self.assertEqual(crossing_undone(book, spelled), undone)
                plain = samples.plain(book.size)
                self.assertEqual(undone, plainly.lead_halves(prime, square, book.back, plain))
                self.assertEqual(led_square(prime, book.back, square), square)
                self.assertEqual(plainly.lead(prime, square, book.counts), book.one)
                self.assertEqual(plainly.lead(prime, tuple(zip(*square)), book.counts), book.one)
                self.assertIs(is_crossing(book, tuple(zip(*undone))), True)

    def test_any_value(self):
        book = group_book(3, samples.cyclic(2))
        good = [[1, 0], [0, 0]]
        self.assertIs(is_crossing(book, good), True)
        self.assertIs(is_crossing(book, ((-2, 3), [0, -3])), True)
        for value in self.wrong_squares(2) + [[[True, 0], [0, 0]], [[1, 0], [0, False]], [[1.0, 0], [0, 0]], book]:
            self.assertIs(is_crossing(book, value), False)
            self.refused(BadCrossing, None, crossing_undone, book, value)
        self.wants_books(is_crossing, 1, good)
        self.wants_books(crossing_undone, 1, good)
        self.wants_books(crossings, 1)

    def test_limit(self):
        for prime, table in ((97, samples.cyclic(2)), (11, samples.cyclic(3)), (3, samples.FOUR), (2, samples.cyclic(4)),
                             (97, [[0]])):
            self.assertIn(plainly.pair(prime, samples.unit(len(table), 0), samples.unit(len(table), 0)),
                          crossings(group_book(prime, table)))
        for prime, table in ((13, samples.cyclic(3)), (5, samples.FOUR), (2, samples.cyclic(5)), (97, samples.cyclic(3)),
                             (2, samples.cyclic(16))):
            self.refused(TooMany, 20000, crossings, group_book(prime, table))


if __name__ == "__main__":
    unittest.main()
