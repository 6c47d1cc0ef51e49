"""Point 112: guests exchanged by crossings, along braids."""

import itertools
import unittest

from splitbooks.alongs import is_along
from splitbooks.besides import beside_rooms
from splitbooks.bases import other_way
from splitbooks.braids import braid_undone, is_braid
from splitbooks.doubles import double, double_crossing
from splitbooks.errors import BadBraid, BadCrossing, BadRoom, BadShape, BadStrands, TooMany
from splitbooks.families import group_book
from splitbooks.rooms import Room, count_room, own_room
from splitbooks.weaves import braid_map, exchange
from tests import plainly, plainrooms, samples
from tests.braidsamples import NO_STRANDS, alike_pairs, some_braid
from tests.helping import Case
from tests.weavesamples import crossed_books, led_by, rooms_for, woven


def exchange_plainly(one, other, square):
    prime = one.book.prime
    guests, others = samples.plain(one.size), samples.plain(other.size)
    things = samples.plain(one.book.size)
    rows = []
    for v in guests:
        for w in others:
            total = [0] * (one.size * other.size)
            for a, b, number in plainrooms.pairs(square):
                for j, x in enumerate(led_by(other, things[b], w)):
                    for i, y in enumerate(led_by(one, things[a], v)):
                        total[j * one.size + i] += number * x * y
            rows.append(tuple(number % prime for number in total))
    return tuple(rows)


def braid_plainly(room, square, strands, braid):
    """Each place led by the steps in turn, as a dict of numbers at rows of guests."""
    prime, m = room.book.prime, room.size
    step = exchange_plainly(room, room, square) if strands > 1 else None
    undone = [row[m * m:] for row in plainly.tidy(
        [row + unit for row, unit in zip(step, samples.plain(m * m))], prime)] if strands > 1 else None
    places = list(itertools.product(range(m), repeat=strands))
    rows = []
    for place in places:
        here = {place: 1}
        for number in braid:
            k = abs(number)
            new = {}
            for row, many in here.items():
                led = (step if number > 0 else undone)[row[k - 1] * m + row[k]]
                for at, more in enumerate(led):
                    if more:
                        to = row[:k - 1] + (at // m, at % m) + row[k + 1:]
                        new[to] = (new.get(to, 0) + many * more) % prime
            here = new
        rows.append(tuple(here.get(to, 0) for to in places))
    return tuple(rows)


class WeavesTest(Case):

    def test_exchange(self):
        for name, (book, square) in crossed_books().items():
            rooms = list(rooms_for(book).values())[:5]
            for one, other in itertools.product(rooms, repeat=2):
                if one.size * other.size > 16:
                    continue
                with self.subTest(name=name):
                    found = self.unchanged(exchange, one, other, square)
                    self.numbers_within(book.prime, found, 2)
                    self.assertEqual(found, exchange_plainly(one, other, square))
                    spelled = [[number - book.prime for number in row] for row in square]
                    self.assertEqual(exchange(one, other, spelled), found)
                    self.assertIs(is_along(beside_rooms(one, other), beside_rooms(other, one), found), True)

    def test_some_exchange_more_than_places(self):
        told = 0
        for room, square in woven().values():
            if room.size > 1:
                m = room.size
                places = tuple(samples.unit(m * m, j * m + i) for i in range(m) for j in range(m))
                told += exchange(room, room, square) != places
        self.assertGreater(told, 15)

    def test_braid_map(self):
        for name, (room, square) in woven().items():
            for strands in range(1, 9):
                if room.size == 1 and strands not in (1, 3, 8):
                    continue
                if room.size ** strands > 64:
                    self.refused(TooMany, 64, braid_map, room, square, strands, [])
                    self.refused(TooMany, 64, braid_map, room, square, strands, some_braid(strands, 40, 1))
                    continue
                if room.size ** strands > 32 and "own" in name:
                    continue
                for seed, many in enumerate((0, 1, 4)):
                    braid = some_braid(strands, many, seed)
                    with self.subTest(name=name, strands=strands, braid=braid):
                        found = self.unchanged(braid_map, room, square, strands, braid)
                        self.numbers_within(room.book.prime, found, 2)
                        self.assertEqual(found, braid_plainly(room, square, strands, braid))

    def test_undone_and_moves(self):
        for name, (room, square) in woven().items():
            if room.size == 1 and room.book.size > 4:
                continue
            for strands in (2, 3, 4):
                if room.size ** strands > 27:
                    continue
                braid = some_braid(strands, 5, 8)
                with self.subTest(name=name, strands=strands):
                    whole = samples.plain(room.size ** strands)
                    self.assertEqual(braid_map(room, square, strands, braid + braid_undone(strands, braid)), whole)
                    self.assertEqual(braid_map(room, square, strands, [1] * 20 + [-1] * 20), whole)
                    if strands > 2:
                        self.assertEqual(braid_map(room, square, strands, [1, 2, 1]),
                                         braid_map(room, square, strands, (2, 1, 2)))
                        self.assertEqual(braid_map(room, square, strands, [-2, -1, -2]),
                                         braid_map(room, square, strands, (-1, -2, -1)))
                    if strands > 3:
                        self.assertEqual(braid_map(room, square, strands, [1, -3]),
                                         braid_map(room, square, strands, [-3, 1]))

    def test_alike_braids(self):
        pairs = [pair for pair in alike_pairs() if is_braid(pair[0], pair[2])]
        rooms = [each for name, each in woven().items() if each[0].size == 2][:8]
        for strands, one, other in pairs:
            for room, square in rooms:
                if strands <= 5:
                    self.assertEqual(braid_map(room, square, strands, one), braid_map(room, square, strands, other))
        room, square = woven()["double of two over 3, own"]
        self.assertNotEqual(braid_map(room, square, 2, [1, 1]), braid_map(room, square, 2, []))
        self.assertNotEqual(braid_map(room, square, 3, [1, 2]), braid_map(room, square, 3, [2, 1]))

    def test_goes_along(self):
        for name, (room, square) in woven().items():
            for strands in (1, 2, 3, 4):
                if room.size ** strands > 27:
                    continue
                beside = room
                for _ in range(strands - 1):
                    beside = beside_rooms(beside, room)
                with self.subTest(name=name, strands=strands):
                    found = braid_map(room, square, strands, some_braid(strands, 3, 2))
                    self.assertIs(is_along(beside, beside, found), True)

    def test_limits(self):
        eight = group_book(5, samples.cyclic(8))
        plain = [[1 if j == k == 0 else 0 for k in range(8)] for j in range(8)]
        nine = group_book(5, samples.cyclic(9))
        room, count = own_room(eight), count_room(eight)
        self.assertEqual(len(exchange(room, room, plain)), 64)
        self.assertEqual(len(braid_map(room, plain, 2, [1, -1, 1])), 64)
        self.assertEqual(braid_map(count, plain, 8, [7] * 40), ((1,),))
        self.refused(TooMany, 64, braid_map, room, plain, 3, [1])
        more = [[1 if j == k == 0 else 0 for k in range(9)] for j in range(9)]
        self.refused(TooMany, 64, exchange, own_room(nine), own_room(nine), more)
        self.assertEqual(len(exchange(own_room(nine), count_room(nine), more)), 9)
        self.assertEqual(len(braid_map(own_room(nine), more, 1, [])), 9)
        self.refused(TooMany, 64, braid_map, own_room(nine), more, 2, [1])
        self.refused(BadBraid, None, braid_map, own_room(nine), more, 2, [2])
        one = group_book(5, [[0]])
        wide = Room(one, [samples.plain(36)])
        self.assertEqual(braid_map(wide, [[1]], 1, []), samples.plain(36))
        self.refused(TooMany, 64, exchange, wide, Room(one, [samples.plain(2)]), [[1]])
        two = Room(one, [samples.plain(2)])
        self.assertEqual(len(braid_map(two, [[1]], 6, [5, -1] * 20)), 64)
        self.refused(TooMany, 64, braid_map, two, [[1]], 7, [])
        self.assertEqual(len(braid_map(Room(one, [samples.plain(4)]), [[1]], 3, [1, 2])), 64)

    def test_refused(self):
        room, square = woven()["two over 3: 1, own"]
        self.wants_rooms(exchange, 2, square)
        self.wants_rooms(braid_map, 1, square, 2, [1])
        for value in self.wrong_squares(2) + [[[1, 0], [0, 1]], [[0, 0], [0, 0]]]:
            self.refused(BadCrossing, None, exchange, room, room, value)
            self.refused(BadCrossing, None, braid_map, room, value, None, None)
        for value in samples.STRANGE + NO_STRANDS + [True]:
            self.refused(BadStrands, None, braid_map, room, square, value, None)
        for value in samples.STRANGE + [[0], [2], [-2], [True], [1] * 41, 1]:
            if isinstance(value, (list, tuple)) and len(value) == 0:
                continue
            self.refused(BadBraid, None, braid_map, room, square, 2, value)

    def test_by_hand(self):
        """Over 3, signs: of two guests of the sign -1 the exchange has -1."""
        book = group_book(3, samples.cyclic(2))
        square = ((2, 2), (2, 1))
        sign = Room(book, [[[1]], [[2]]])
        self.assertEqual(exchange(sign, sign, square), ((2,),))
        self.assertEqual(exchange(count_room(book), sign, square), ((1,),))
        self.assertEqual(exchange(count_room(book), count_room(book), square), ((1,),))
        self.assertEqual(braid_map(sign, square, 3, [1, 2, 1]), ((2,),))
        # Places of two guests: the first one is the higher digit.
        both = Room(book, [[[1, 0], [0, 1]], [[1, 0], [0, 2]]])
        self.assertEqual(exchange(both, both, square), ((1, 0, 0, 0), (0, 0, 1, 0), (0, 1, 0, 0), (0, 0, 0, 2)))
        self.assertEqual(braid_map(both, square, 3, [1])[3], samples.unit(8, 5))
        self.assertEqual(braid_map(both, square, 3, [2])[3], (0, 0, 0, 2, 0, 0, 0, 0))

    def test_double(self):
        """Things and rows: a row's guest is led by what the thing's fall tells."""
        book = other_way(group_book(5, samples.cyclic(2)))
        whole, square = double(book), double_crossing(book)
        room = own_room(whole)
        self.assertEqual(exchange(room, room, square), exchange_plainly(room, room, square))


if __name__ == "__main__":
    unittest.main()
