"""Point 114: closings, and the numbers that no move changes."""

import unittest

from splitbooks.braids import excess, is_braid
from splitbooks.closings import closing, kept_number, twist
from splitbooks.doings import joined
from splitbooks.errors import BadBraid, BadCrossing, BadStrands, BadWeigher, NoTwist, TooMany
from splitbooks.families import group_book
from splitbooks.ribbons import ribbon_of
from splitbooks.rooms import Room, count_room, own_room
from splitbooks.strands import thing_undone
from splitbooks.weaves import braid_map
from tests import plainly, samples
from tests.braidsamples import NO_STRANDS, alike_pairs, some_braid
from tests.helping import Case
from tests.weavesamples import led_by, weighed


def beside(prime, rows):
    """The numbers at places of guests beside one another."""
    found = (1,)
    for row in rows:
        found = tuple(a * b % prime for a in found for b in row)
    return found


def closed_plainly(room, square, thing, strands, braid, last=None):
    """The closing; last, a thing, leads the guests of the last strand once more."""
    prime, m = room.book.prime, room.size
    rows = braid_map(room, square, strands, braid)
    led = [led_by(room, thing, v) for v in samples.plain(m)]
    total = 0
    for at, row in enumerate(rows):
        for to, number in enumerate(row):
            if number:
                guests = [to // m ** (strands - 1 - k) % m for k in range(strands)]
                ends = [led[k] for k in guests]
                if last is not None:
                    ends[-1] = led_by(room, thing, led_by(room, last, samples.unit(m, guests[-1])))
                total += number * beside(prime, ends)[at]
    return total % prime


def fitting(most, strands):
    """Those of weighed() that have at most so many places."""
    return {name: each for name, each in weighed().items()
            if each[0].size ** strands <= most and (each[0].book.size <= 9 or each[0].size > 1)}


class ClosingsTest(Case):

    def test_closing(self):
        for name, (room, square, thing) in weighed().items():
            for strands in (1, 2, 3, 4):
                if room.size ** strands > 64:
                    self.refused(TooMany, 64, closing, room, square, thing, strands, [])
                    continue
                if room.size ** strands > 32 or (room.size == 1 and strands == 2):
                    continue
                for seed, many in enumerate((0, 1, 3)):
                    braid = some_braid(strands, many, seed)
                    with self.subTest(name=name, strands=strands, braid=braid):
                        found = self.unchanged(closing, room, square, thing, strands, braid)
                        self.assertIs(type(found), int)
                        self.assertEqual(found, closed_plainly(room, square, thing, strands, braid))
                        self.assertTrue(0 <= found < room.book.prime)

    def test_twist(self):
        told = set()
        for name, (room, square, thing) in weighed().items():
            v = ribbon_of(room.book, square, thing)
            led = [led_by(room, v, guest) for guest in samples.plain(room.size)]
            number = led[0][0]
            wanted = all(row == tuple(number * n for n in unit) for row, unit in zip(led, samples.plain(room.size)))
            with self.subTest(name=name):
                found = self.unchanged(twist, room, square, thing)
                self.assertEqual(found, number if wanted else None)
                self.assertIs(type(found), int if wanted else type(None))
                told.add((found if found is None else min(found, 2), room.size > 1))
        self.assertEqual(told, {(1, False), (2, False), (1, True), (2, True), (None, True)})

    def test_turned_about(self):
        for name, (room, square, thing) in fitting(27, 3).items():
            for braid in ([1, 2, -1], [2, 2, 1, -2], [1, -2]):
                with self.subTest(name=name, braid=braid):
                    numbers = {closing(room, square, thing, 3, braid[at:] + braid[:at]) for at in range(len(braid))}
                    self.assertEqual(len(numbers), 1)

    def test_one_strand_more(self):
        for name, (room, square, thing) in fitting(32, 3).items():
            book = room.book
            v = ribbon_of(book, square, thing)
            undone = thing_undone(book, v)
            for strands, braid in ((1, []), (2, [1]), (2, [-1, -1, -1]), (2, [])):
                with self.subTest(name=name, strands=strands, braid=braid):
                    found = closing(room, square, thing, strands + 1, braid + [strands])
                    self.assertEqual(found, closed_plainly(room, square, thing, strands, braid, undone))
                    found = closing(room, square, thing, strands + 1, braid + [-strands])
                    self.assertEqual(found, closed_plainly(room, square, thing, strands, braid, v))

    def test_kept_number(self):
        changed = set()
        for name, (room, square, thing) in weighed().items():
            number = twist(room, square, thing)
            prime = room.book.prime
            for strands in (1, 2, 3):
                braid = some_braid(strands, 4, strands)
                if number is None:
                    self.refused(NoTwist, None, kept_number, room, square, thing, strands, braid)
                    continue
                if room.size ** strands > 64:
                    self.refused(TooMany, 64, kept_number, room, square, thing, strands, braid)
                    continue
                if room.size ** strands > 32:
                    continue
                with self.subTest(name=name, strands=strands):
                    found = self.unchanged(kept_number, room, square, thing, strands, braid)
                    self.assertIs(type(found), int)
                    closed = closing(room, square, thing, strands, braid)
                    wanted = closed * pow(number, excess(strands, braid), prime) % prime
                    self.assertEqual(found, wanted)
                    changed.add(found != closed)
        self.assertEqual(changed, {True, False})

    def test_kept_by_moves(self):
        """Alike braids, braids turned about, one strand more with either step."""
        seen = 0
        for name, (room, square, thing) in fitting(27, 3).items():
            if twist(room, square, thing) is None or (room.size == 1 and room.book.size > 9):
                continue
            seen += 1
            most = 4 if room.size < 3 else 3
            for strands, braid, other in alike_pairs(6):
                if strands > most or not is_braid(strands, other):
                    continue
                with self.subTest(name=name, braid=braid):
                    wanted = kept_number(room, square, thing, strands, braid)
                    self.assertEqual(kept_number(room, square, thing, strands, other), wanted)
                    self.assertEqual(kept_number(room, square, thing, strands, braid[1:] + braid[:1]), wanted)
                    if strands < most:
                        for step in (strands, -strands):
                            self.assertEqual(kept_number(room, square, thing, strands + 1, braid + [step]), wanted)
        self.assertGreater(seen, 30)

    def test_large_prime_and_steps(self):
        """Forty steps, and the number undone for steps below 0."""
        for name in ("double of three over 97, other way, simple 4, 0", "double of three over 7, simple 4, 0",
                     "double of two over 3, three together, 0", "double of four over 3, first and last, 0"):
            room, square, thing = weighed()[name]
            number = twist(room, square, thing)
            prime = room.book.prime
            for braid in ([1] * 40, [-1] * 40, [1, -1] * 20):
                closed = closing(room, square, thing, 2, braid)
                self.assertEqual(kept_number(room, square, thing, 2, braid),
                                 closed * pow(number, excess(2, braid), prime) % prime)
            self.assertEqual(kept_number(room, square, thing, 2, [1]), kept_number(room, square, thing, 1, []))
            self.assertEqual(kept_number(room, square, thing, 2, [-1]), kept_number(room, square, thing, 1, []))

    def test_limits(self):
        one = group_book(5, [[0]])
        two = Room(one, [samples.plain(2)])
        self.assertEqual(closing(two, [[1]], [1], 6, [1, 2, 3, 4, 5]), 2)
        self.assertEqual(closing(two, [[1]], [1], 6, []), 64 % 5)
        self.assertEqual(kept_number(two, [[1]], [1], 6, []), 64 % 5)
        self.refused(TooMany, 64, closing, two, [[1]], [1], 7, [])
        self.refused(TooMany, 64, kept_number, two, [[1]], [1], 7, [])
        wide = Room(one, [samples.plain(36)])
        self.assertEqual(closing(wide, [[1]], [1], 1, []), 1)
        self.refused(TooMany, 64, closing, wide, [[1]], [1], 2, [])
        self.assertEqual(closing(count_room(one), [[1]], [1], 8, [7] * 40), 1)

    def test_refused(self):
        book = group_book(3, samples.cyclic(2))
        square = ((2, 2), (2, 1))
        room = own_room(book)
        for function, others in ((closing, (2, [1])), (twist, ()), (kept_number, (2, [1]))):
            self.wants_rooms(function, 1, square, (1, 0), *others)
            for value in self.wrong_squares(2) + [[[1, 0], [0, 1]]]:
                self.refused(BadCrossing, None, function, room, value, None, *[None] * len(others))
            for value in self.wrong_rows(2) + [(1, 1), (2, 0), (0, 0)]:
                self.refused(BadWeigher, None, function, room, square, value, *[None] * len(others))
        for function in (closing, kept_number):
            for value in samples.STRANGE + NO_STRANDS + [True]:
                self.refused(BadStrands, None, function, room, square, (1, 0), value, None)
            for value in [None, [0], [2], [True], [1] * 41, "1", 1, {1: 1}]:
                self.refused(BadBraid, None, function, room, square, (1, 0), 2, value)
        # g leads both guests of the own room not to one multiple of them; that is told behind what is no braid.
        self.assertIsNone(twist(room, square, (1, 0)))
        self.refused(BadBraid, None, kept_number, room, square, (1, 0), 2, [2])
        self.refused(NoTwist, None, kept_number, room, square, (1, 0), 2, [1])
        self.refused(NoTwist, None, kept_number, room, square, (1, 0), 8, [1])
        self.refused(TooMany, 64, kept_number, room, square, (0, 1), 8, [1])
        self.assertEqual(twist(room, square, (0, 1)), 1)

    def test_by_hand(self):
        """The sign of two over 3: u is g. By the weigher one, the ribbon g leads the sign's guest to 2 times it."""
        book = group_book(3, samples.cyclic(2))
        square = ((2, 2), (2, 1))
        sign = Room(book, [[[1]], [[2]]])
        self.assertEqual(twist(sign, square, (1, 0)), 2)
        self.assertEqual(closing(sign, square, (1, 0), 1, []), 1)
        self.assertEqual(closing(sign, square, (1, 0), 2, [1]), 2)
        self.assertEqual(kept_number(sign, square, (1, 0), 2, [1]), 1)
        # By the weigher g, closings have -1 for each strand, and the ribbon is one.
        self.assertEqual(twist(sign, square, (0, 1)), 1)
        self.assertEqual(closing(sign, square, (0, 1), 1, []), 2)
        self.assertEqual(kept_number(sign, square, (0, 1), 2, [1]), 2)
        self.assertEqual(joined(book, (0, 1), (0, 1)), (1, 0))
        self.assertEqual(plainly.count(3, book.counts, (0, 1)), 1)


if __name__ == "__main__":
    unittest.main()
