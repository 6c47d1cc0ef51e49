"""Point 30: leadings and likenesses."""

import itertools
import unittest

from splitbooks import errors
from splitbooks.bases import beside, in_basis, joins_turned, other_way, splits_turned
from splitbooks.brackets import bracket_book
from splitbooks.families import group_book, shift_book, slip_book
from splitbooks.leadings import are_alike, is_leading, likeness
from tests import plainly, samples
from tests.helping import Case
from tests.samples import STRANGE


def leads(one, other, rows):
    """Whether the map is a leading, plainly."""
    prime, places = one.prime, range(one.size)
    things = samples.plain(one.size)
    if plainly.lead(prime, rows, one.one) != other.one:
        return False
    for i in places:
        if plainly.count(prime, other.counts, rows[i]) != one.counts[i]:
            return False
        if plainly.lead_halves(prime, one.splits[i], rows, rows) != plainly.split(prime, other.splits, rows[i]):
            return False
        for j in places:
            led = plainly.lead(prime, rows, plainly.join(prime, one.joins, things[i], things[j]))
            if led != plainly.join(prime, other.joins, rows[i], rows[j]):
                return False
    return True


def all_leadings(one, other):
    """All leadings, ascending, by trying each map."""
    rows = list(samples.all_rows(one.prime, other.size))
    return [found for found in itertools.product(rows, repeat=one.size) if leads(one, other, found)]


class IsLeadingTest(Case):

    def test_all_maps_of_few_things(self):
        books = samples.books()
        names = ["two over 2", "two over 2, other way", "brackets 2, power 0", "brackets 2, power 1, other basis",
                 "two over 2, other way, other basis"]
        for one, other in itertools.product(names, names):
            for found in itertools.product(samples.all_rows(2, 2), repeat=2):
                self.assertIs(is_leading(books[one], books[other], found), leads(books[one], books[other], found))
        names = ["two over 3", "two over 3, other way, other basis"]
        for one, other in itertools.product(names, names):
            for found in itertools.product(samples.all_rows(3, 2), repeat=2):
                self.assertIs(is_leading(books[one], books[other], found), leads(books[one], books[other], found))

    def test_between_sizes(self):
        two, four = group_book(3, samples.cyclic(2)), shift_book(3, 2, 2)
        found = all_leadings(two, four)
        self.assertIn(((1, 0, 0, 0), (0, 0, 1, 0)), found)
        for rows in itertools.product(samples.all_rows(3, 4), repeat=2):
            self.assertIs(is_leading(two, four, rows), rows in found)
        # Across, a leading leads the other ways, from the later one to the former one.
        for rows in found:
            self.assertTrue(is_leading(other_way(four), other_way(two), tuple(zip(*rows))))
            for thing in samples.plain(2):
                led = plainly.lead(3, rows, plainly.lead(3, two.back, thing))
                self.assertEqual(led, plainly.lead(3, four.back, plainly.lead(3, rows, thing)))

    def test_each_part_counts(self):
        # For each of these books just one thing that a leading keeps is not kept by the plain map.
        books = samples.families()
        plain = samples.plain(4)
        shift = books["shift 2 over 5"]
        self.assertTrue(is_leading(shift, shift, plain))
        self.assertFalse(is_leading(shift, splits_turned(shift), plain))
        self.assertFalse(is_leading(shift, joins_turned(shift), plain))
        zero, power = bracket_book(2, [[[0]]], [[0]]), bracket_book(2, [[[0]]], [[1]])
        self.assertFalse(is_leading(zero, power, samples.plain(2)))
        two = group_book(3, samples.cyclic(2))
        self.assertFalse(is_leading(two, two, ((0, 1), (1, 0))))
        self.assertFalse(is_leading(two, two, ((1, 0), (0, 0))))
        self.assertFalse(is_leading(two, two, ((1, 0), (0, 2))))
        self.assertTrue(is_leading(two, two, ((1, 0), (1, 0))))
        self.assertTrue(is_leading(two, two, ((4, -3), (7, 300))))

    def test_of_samples(self):
        for name, book in samples.books().items():
            with self.subTest(name=name):
                plain = samples.plain(book.size)
                self.assertIs(is_leading(book, book, plain), True)
                one = group_book(book.prime, [[0]])
                self.assertTrue(is_leading(one, book, (book.one,)))
                self.assertTrue(is_leading(book, one, [[count] for count in book.counts]))
                twice = [plainly.lead(book.prime, book.back, row) for row in book.back]
                self.assertTrue(is_leading(book, book, twice))
                self.assertTrue(is_leading(book, joins_turned(splits_turned(book)), book.back))

    def test_any_value(self):
        two, four = group_book(3, samples.cyclic(2)), shift_book(3, 2, 2)
        good = [[1, 0, 0, 0], [0, 0, 1, 0]]
        self.assertIs(is_leading(two, four, good), True)
        self.assertIs(is_leading(two, four, tuple(tuple(row) for row in good)), True)
        self.assertIs(self.unchanged(is_leading, two, four, [[-2, 0, 3, 0], (0, 0, 4, 0)]), True)
        for value in STRANGE + [good[:1], good + good[:1], [good], [[True, 0, 0, 0], good[1]], [good[0], [0, 0, 1.0, 0]],
                                [good[0], [0, 0, 1]], [good[0], [0, 0, 1, False]], [good[0], "abcd"], [1, 0],
                                {0: good[0], 1: good[1]}, samples.plain(4), samples.plain(2), "ab", [good[0], range(4)]]:
            self.assertIs(is_leading(two, four, value), False)

    def test_refusals(self):
        self.wants_books(is_leading, 2, None)
        self.refused(errors.BadShape, "prime", is_leading, group_book(3, [[0]]), group_book(2, [[0]]), [[1]])


class LikenessTest(Case):

    def test_least_of_all(self):
        books = samples.books()
        names = [name for name, book in books.items() if book.size == 2]
        names += [name for name, book in books.items() if book.size == 3 and book.prime == 3]
        seen = set()
        for one, other in itertools.product(names, names):
            one, other = books[one], books[other]
            if one.prime != other.prime or one.size != other.size:
                continue
            wanted = None
            if one.size == 2:
                found = [rows for rows in all_leadings(one, other) if plainly.rank(rows, one.prime) == one.size]
                wanted = min(found, default=None)
            else:
                rows = list(samples.all_rows(3, 3))
                choices = [[row for row in rows if plainly.count(3, other.counts, row) == count]
                           for count in one.counts]
                for maps in itertools.product(*choices):
                    if plainly.lead(3, maps, one.one) == other.one and leads(one, other, maps) and plainly.rank(
                            maps, 3) == 3:
                        wanted = maps
                        break
            self.assertEqual(likeness(one, other), wanted)
            self.assertIs(are_alike(one, other), wanted is not None)
            seen.add(wanted is None)
        self.assertEqual(seen, {True, False})

    def test_books_in_other_bases(self):
        for name, book in samples.books().items():
            if book.size > 4 or (book.size == 4 and book.prime > 3) or (book.size == 3 and book.prime > 11):
                continue
            with self.subTest(name=name):
                rows = samples.some_basis(book.size, book.prime, 9)
                made = in_basis(book, rows)
                for one, other in ((made, book), (book, made)):
                    found = likeness(one, other)
                    self.numbers_within(book.prime, found, 2)
                    self.assertTrue(is_leading(one, other, found))
                    self.assertEqual(plainly.rank(found, book.prime), book.size)
                    self.assertIs(are_alike(one, other), True)
                led = tuple(tuple(number % book.prime for number in row) for row in rows)
                self.assertLessEqual(likeness(made, book), led)

    def test_least_of_four_things(self):
        # All likenesses of a book to itself make the others, so the least one can be told from them.
        four = group_book(3, samples.FOUR)
        orders = [order for order in itertools.permutations(range(4)) if order[0] == 0]
        rows = samples.some_basis(4, 3, 2)
        made = in_basis(four, rows)
        maps = []
        for order in orders:
            turned = [samples.unit(4, k) for k in order]
            maps.append(tuple(plainly.lead(3, turned, plainly.lead(3, rows, thing)) for thing in samples.plain(4)))
        self.assertEqual(likeness(made, four), min(maps))
        shift = shift_book(3, 2, 2)
        made = in_basis(shift, rows)
        maps = []
        for number in (1, 2):
            turned = [(1, 0, 0, 0), (0, number, 0, 0), (0, 0, 1, 0), (0, 0, 0, number)]
            maps.append(tuple(plainly.lead(3, turned, plainly.lead(3, rows, thing)) for thing in samples.plain(4)))
        self.assertEqual(likeness(made, shift), min(maps))

    def test_known_ones(self):
        three = group_book(7, samples.cyclic(3))
        self.assertTrue(are_alike(three, other_way(three)))
        three = group_book(5, samples.cyclic(3))
        self.assertFalse(are_alike(three, other_way(three)))
        two = group_book(3, samples.cyclic(2))
        self.assertTrue(are_alike(two, other_way(two)))
        self.assertFalse(are_alike(group_book(2, samples.cyclic(2)), other_way(group_book(2, samples.cyclic(2)))))
        self.assertTrue(are_alike(bracket_book(2, [[[0]]], [[1]]), other_way(group_book(2, samples.cyclic(2)))))
        self.assertFalse(are_alike(group_book(3, samples.FOUR), group_book(3, samples.cyclic(4))))
        self.assertTrue(are_alike(beside(two, two), group_book(3, samples.FOUR)))
        shift = shift_book(3, 2, 2)
        for made in (other_way(shift), joins_turned(shift), splits_turned(shift)):
            self.assertTrue(are_alike(shift, made))
        self.assertFalse(are_alike(shift, group_book(3, samples.cyclic(4))))
        self.assertFalse(are_alike(slip_book(2), group_book(2, samples.FOUR)))
        self.assertIsNone(likeness(slip_book(2), group_book(2, samples.FOUR)))

    def test_unlike_sizes(self):
        # Nothing is too many where the sizes are not the same.
        one, many = group_book(7, samples.cyclic(8)), group_book(7, samples.cyclic(16))
        self.assertIsNone(likeness(one, many))
        self.assertIs(are_alike(many, one), False)

    def test_limit(self):
        for prime, size in ((2, 4), (3, 4), (11, 3), (97, 2), (97, 1), (2, 1)):
            book = group_book(prime, samples.cyclic(size))
            self.assertEqual(likeness(book, book), min(all_of_group(prime, size)))
            self.assertIs(are_alike(book, book), True)
        for prime, size in ((2, 5), (5, 4), (13, 3), (97, 3), (97, 16), (3, 5), (2, 16)):
            book = group_book(prime, samples.cyclic(size))
            self.refused(errors.TooMany, 20000, likeness, book, book)
            self.refused(errors.TooMany, 20000, are_alike, book, book)

    def test_refusals(self):
        self.wants_books(likeness, 2)
        self.wants_books(are_alike, 2)
        one, other = group_book(2, samples.cyclic(16)), group_book(3, samples.cyclic(16))
        self.refused(errors.BadShape, "prime", likeness, one, other)
        self.refused(errors.BadShape, "prime", are_alike, one, other)
        self.refused(errors.BadShape, "prime", are_alike, one, group_book(5, [[0]]))


def all_of_group(prime, size):
    """The likenesses of the group book of a round of size things to itself."""
    found = []
    for step in range(1, size + 1):
        order = [step * k % size for k in range(size)]
        if sorted(order) == list(range(size)):
            found.append(tuple(samples.unit(size, k) for k in order))
    return found


if __name__ == "__main__":
    unittest.main()
