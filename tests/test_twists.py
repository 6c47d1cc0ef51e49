"""Point 94: twists."""

import itertools
import unittest

from splitbooks.bases import other_way, splits_turned
from splitbooks.books import Splitbook
from splitbooks.crossings import crossings, is_crossing
from splitbooks.doings import counted, joined, split, squares_joined
from splitbooks.doubles import double, double_crossing
from splitbooks.errors import BadCrossing, BadRow, BadTwist, TooMany
from splitbooks.families import group_book, shift_book
from splitbooks.leadings import is_leading
from splitbooks.selfsplit import is_selfsplit, selfsplit_things
from splitbooks.strands import thing_undone
from splitbooks.swallowed import swallowed_left, swallowed_right
from splitbooks.twists import (
    is_twist, led_twist, twist_lead, twist_leader, twist_undone, twisted, twisted_crossing)
from splitbooks.twisttables import twists
from tests import plainly, plaintwists, samples
from tests.helping import Case
from tests.twistsamples import functions_twist, plain_twist, some_twists, things_to_lead, twisted_books


def changed(square, j, k, by=1):
    rows = [list(row) for row in square]
    rows[j][k] += by
    return rows


class TwistsTest(Case):

    def test_is_twist(self):
        for name, (book, square) in some_twists().items():
            with self.subTest(name=name):
                if book.size <= 4:
                    self.assertTrue(plaintwists.is_twist(book, square))
                self.assertIs(self.unchanged(is_twist, book, square), True)
                for rows in ([list(row) for row in square], [[n - book.prime for n in row] for row in square],
                             tuple([n + 3 * book.prime for n in row] for row in square)):
                    self.assertIs(is_twist(book, rows), True)

    def test_but_for_one_number(self):
        seen = set()
        for name, (book, square) in some_twists().items():
            if book.size > 4:
                continue
            for j, k in itertools.product(range(book.size), repeat=2):
                rows = changed(square, j, k)
                wanted = plaintwists.is_twist(book, [[n % book.prime for n in row] for row in rows])
                self.assertIs(is_twist(book, rows), wanted, (name, j, k))
                seen.add(wanted)
        self.assertEqual(seen, {True, False})

    def test_nothing_undoes_it(self):
        """Squares of which all is right but that nothing undoes them."""
        for prime, n in ((2, 2), (3, 2), (5, 3), (97, 2)):
            book = other_way(group_book(prime, samples.cyclic(n)))
            square = functions_twist(prime, samples.cyclic(n), lambda g, h: 1 if g == 0 or h == 0 else 0)
            self.assertEqual(plaintwists.triples(book, square, True), plaintwists.triples(book, square, False))
            self.assertIs(is_twist(book, square), False)
            self.assertIs(plaintwists.is_twist(book, square), False)

    def test_all_squares(self):
        for name in ("two over 2", "two over 3", "brackets 2, power 0", "brackets 2, power 1", "two over 3, other way"):
            book = samples.books()[name]
            found = []
            for numbers in samples.all_rows(book.prime, 4):
                square = (tuple(numbers[:2]), tuple(numbers[2:]))
                wanted = plaintwists.is_twist(book, square)
                self.assertIs(is_twist(book, square), wanted)
                if wanted:
                    found.append(square)
            self.assertEqual(twists(book), found)

    def test_any_value(self):
        book = group_book(3, samples.cyclic(2))
        for value in self.wrong_squares(2):
            self.assertIs(is_twist(book, value), False)
            for function in (twist_undone, twisted, twist_leader):
                self.refused(BadTwist, None, function, book, value)
            self.refused(BadTwist, None, led_twist, book, value, None)
            self.refused(BadTwist, None, twist_lead, book, value, plain_twist(book))
            self.refused(BadTwist, None, twist_lead, book, plain_twist(book), value)
            self.refused(BadTwist, None, twisted_crossing, book, value, None)
        self.wants_books(is_twist, 1, None)
        for function in (twist_undone, twisted, twist_leader):
            self.wants_books(function, 1, None)
        self.wants_books(led_twist, 1, None, None)
        self.wants_books(twist_lead, 1, None, None)
        self.wants_books(twisted_crossing, 1, None, None)
        for square in ([[1, 0], [0, 1]], [[1, 1], [0, 0]], [[0, 0], [0, 0]]):
            self.assertIs(is_twist(book, square), False)
            self.refused(BadTwist, None, twisted, book, square)
        for value in self.wrong_rows(2) + [(1, 1), (2, 0), (0, 0), (2, 1)]:
            # 1 + g cannot be undone, 2 times one has the count 2, twice 2 and 1 the count 0.
            self.refused(BadRow, None, led_twist, book, plain_twist(book), value)
        self.assertEqual(led_twist(book, plain_twist(book), (0, 1)), plain_twist(book))
        for value in self.wrong_squares(2) + [[[1, 0], [0, 1]]]:
            self.refused(BadCrossing, None, twisted_crossing, book, plain_twist(book), value)

    def test_undone(self):
        for name, (book, square) in some_twists().items():
            prime, one = book.prime, plain_twist(book)
            with self.subTest(name=name):
                found = self.unchanged(twist_undone, book, square)
                self.numbers_within(prime, found, 2)
                self.assertEqual(squares_joined(book, square, found), one)
                self.assertEqual(squares_joined(book, found, square), one)
                if book.size <= 4:
                    self.assertEqual(found, plaintwists.undone(book, square))

    def test_twisted(self):
        for name, (book, square) in some_twists().items():
            prime = book.prime
            undone = twist_undone(book, square)
            with self.subTest(name=name):
                found = self.unchanged(twisted, book, square)
                self.assertIs(type(found), Splitbook)
                self.assertEqual((found.prime, found.joins, found.one, found.counts),
                                 (prime, book.joins, book.one, book.counts))
                for x in range(book.size):
                    wanted = squares_joined(book, squares_joined(book, square, book.splits[x]), undone)
                    self.assertEqual(found.splits[x], wanted)

    def test_some_are_changed(self):
        """There are twists that change splits, so that these and those with exchanged halves are not the same."""
        told = {name for name, (book, _) in some_twists().items() if twisted_books()[name] != book}
        self.assertGreater(len(told), 10)
        found = twisted_books()["signs in turns of six"]
        self.assertNotEqual(splits_turned(found), found)
        self.assertEqual(len(selfsplit_things(found)), 4)
        found = twisted_books()["signs in twelve"]
        self.assertEqual(splits_turned(found), found)

    def test_back(self):
        for name, (book, square) in some_twists().items():
            prime = book.prime
            with self.subTest(name=name):
                leader = self.unchanged(twist_leader, book, square)
                self.numbers_within(prime, leader, 1)
                self.assertEqual(leader, plaintwists.leader(book, square))
                undone = thing_undone(book, leader)
                backs = [(tuple(number * n % prime for n in book.back[a]), b)
                         for a, b, number in plaintwists.pairs(twist_undone(book, square))]
                total = [0] * book.size
                for row, b in backs:
                    more = joined(book, row, samples.unit(book.size, b))
                    total = [so_far + number for so_far, number in zip(total, more)]
                self.assertEqual(undone, tuple(number % prime for number in total))
                other = twisted_books()[name]
                for x in range(book.size):
                    wanted = joined(book, joined(book, leader, book.back[x]), undone)
                    self.assertEqual(other.back[x], wanted)

    def test_facts(self):
        for name, (book, square) in some_twists().items():
            other = twisted_books()[name]
            undone = twist_undone(book, square)
            with self.subTest(name=name):
                self.assertEqual(swallowed_left(other), swallowed_left(book))
                self.assertEqual(swallowed_right(other), swallowed_right(book))
                self.assertIs(is_twist(other, undone), True)
                self.assertEqual(twisted(other, undone), book)
                for thing in selfsplit_things(book):
                    pair = plainly.pair(book.prime, thing, thing)
                    stays = squares_joined(book, pair, square) == squares_joined(book, square, pair)
                    self.assertIs(is_selfsplit(other, thing), stays)
                for thing in things_to_lead(other, 2):
                    more = led_twist(other, plain_twist(other), thing)
                    both = squares_joined(book, more, square)
                    self.assertIs(is_twist(book, both), True)
                    self.assertEqual(twisted(book, both), twisted(other, more))

    def test_led(self):
        for name, (book, square) in some_twists().items():
            prime = book.prime
            for thing in things_to_lead(book, 2) + [book.one]:
                undone = thing_undone(book, thing)
                with self.subTest(name=name, thing=thing):
                    found = self.unchanged(led_twist, book, square, [n - prime for n in thing])
                    self.numbers_within(prime, found, 2)
                    wanted = squares_joined(book, plainly.pair(prime, thing, thing), square)
                    self.assertEqual(found, squares_joined(book, wanted, split(book, undone)))
                    self.assertIs(is_twist(book, found), True)
                    turned = [joined(book, joined(book, thing, x), undone) for x in samples.plain(book.size)]
                    self.assertIs(is_leading(twisted_books()[name], twisted(book, found), turned), True)

    def test_lead(self):
        seen = set()
        for name, (book, square) in some_twists().items():
            if book.prime ** (book.size - 1) > 700:
                continue
            others = [plain_twist(book)] + [led_twist(book, square, thing) for thing in things_to_lead(book, 1)]
            leaders = [thing for thing in samples.all_rows(book.prime, book.size)
                       if counted(book, thing) == 1 and thing_undone(book, thing) is not None]
            for other in others:
                wanted = next((thing for thing in leaders if led_twist(book, square, thing) == other), None)
                found = self.unchanged(twist_lead, book, square, other)
                self.assertEqual(found, wanted)
                self.assertIs(type(found), type(wanted))
                seen.add(found is None)
        self.assertEqual(seen, {True, False})

    def test_lead_among_all(self):
        book = samples.books()["slip 2"]
        for one in twists(book):
            for other in twists(book):
                thing = twist_lead(book, one, other)
                if thing is not None:
                    self.assertEqual(led_twist(book, one, thing), other)

    def test_limits(self):
        # 2 ** 10 and 3 ** 6, 43 ** 2 are not above 2000; 2 ** 11, 3 ** 7 and 47 ** 2 are.
        for prime, size, right in ((2, 11, True), (2, 12, False), (3, 7, True), (3, 8, False), (43, 3, True),
                                   (47, 3, False), (97, 2, True), (97, 1, True)):
            book = group_book(prime, samples.cyclic(size))
            if right:
                self.assertEqual(led_twist(book, plain_twist(book), twist_lead(book, plain_twist(book), plain_twist(book))),
                                 plain_twist(book))
            else:
                self.refused(TooMany, 2000, twist_lead, book, plain_twist(book), plain_twist(book))
                self.refused(BadTwist, None, twist_lead, book, plain_twist(book), None)

    def test_crossings(self):
        seen = 0
        for name in ("two over 3", "two over 2", "brackets 2, power 0", "three over 3", "three over 3, other way"):
            book = samples.books()[name]
            for square in twists(book)[:6]:
                other = twisted(book, square)
                made = [self.unchanged(twisted_crossing, book, square, each) for each in crossings(book)]
                for each in made:
                    self.numbers_within(book.prime, each, 2)
                    self.assertIs(is_crossing(other, each), True)
                self.assertEqual(sorted(made), crossings(other))
                seen += len(made)
        self.assertEqual(seen, 20)
        for book in (shift_book(3, 2, 2), group_book(3, samples.cyclic(3)), group_book(97, samples.FOUR)):
            whole = double(book) if book.size ** 2 <= 16 else None
            crossing = double_crossing(book)
            for thing in things_to_lead(whole, 1):
                square = led_twist(whole, plain_twist(whole), thing)
                found = twisted_crossing(whole, square, crossing)
                self.assertIs(is_crossing(twisted(whole, square), found), True)
                turned = tuple(zip(*square))
                wanted = squares_joined(whole, squares_joined(whole, turned, crossing), twist_undone(whole, square))
                self.assertEqual(found, wanted)

    def test_by_hand(self):
        """Over 3 the twist of the group of two that is not plain has -1 where both halves are exchanged by signs."""
        book = group_book(3, samples.cyclic(2))
        square = ((2, 2), (2, 1))
        self.assertEqual(twists(book), [((1, 0), (0, 0)), square])
        self.assertEqual(twisted(book, square), book)
        self.assertEqual(twist_undone(book, square), square)
        # 2 and g joined to g make 3, 2 times g and g times 2 make 4 g.
        self.assertEqual(twist_leader(book, square), (0, 1))

    def test_large(self):
        book = samples.large_books()["shift 4 over 5"]
        for thing in things_to_lead(book, 1):
            square = led_twist(book, plain_twist(book), thing)
            self.assertEqual(squares_joined(book, square, twist_undone(book, square)), plain_twist(book))
            other = twisted(book, square)
            self.assertEqual(other.joins, book.joins)
            self.assertIs(is_twist(book, changed(square, 15, 15)), False)


if __name__ == "__main__":
    unittest.main()
