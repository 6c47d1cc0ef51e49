"""Point 75: rooms whose guests fall crosswise, exchanges, and rooms of doubles."""

import functools
import unittest

from splitbooks.alongs import is_along
from splitbooks.bases import other_way
from splitbooks.besides import beside_rooms, rooms_together
from splitbooks.bothrooms import free_both
from splitbooks.crossings import crossings
from splitbooks.crossrooms import (
    CrossRoom, beside_cross, cross_of, crossing_cross, double_room, room_exchange, turning_back_cross, turning_cross)
from splitbooks.doings import back_undone
from splitbooks.doubles import double, double_crossing
from splitbooks.errors import BadBook, BadCrossing, BadRoom, BadShape, TooMany
from splitbooks.falls import falls_of
from splitbooks.families import group_book, shift_book
from splitbooks.rooms import Room, count_room, own_room, room_fault
from splitbooks.turning import turning_back_room, turning_room
from tests import dense, plainly, plainrooms, samples
from tests.helping import Case
from tests.roomsamples import maps_put, some_books
from tests.test_bothrooms import not_together
from tests.test_rooms import listed


def small_books():
    """Books of at most four things, in some bases."""
    return {name: book for name, book in some_books().items() if book.size <= 4}


def crosses_of(book):
    """CrossRooms of a book."""
    count = count_room(book)
    found = [turning_cross(book), turning_back_cross(book), CrossRoom(book, count.leads, [[book.one]])]
    if book.prime ** ((book.size - 1) ** 2) <= 20000:
        squares = crossings(book)
        for square in squares[:1] + squares[-1:]:
            found.append(crossing_cross(own_room(book), square))
            found.append(crossing_cross(rooms_together(count, count), square))
    found.append(cross_in_guests(found[0]))
    return found


def cross_in_guests(cross, seed=6):
    """The room with other guests in the place of its own."""
    book, prime = cross.book, cross.book.prime
    rows = samples.some_basis(cross.size, prime, seed)
    undone = dense.undone(rows, prime)
    turned = [maps_put(prime, rows, [[row[k] for row in table] for table in cross.falls], undone)
              for k in range(book.size)]
    falls = [[[square[i][j] for square in turned] for j in range(cross.size)] for i in range(cross.size)]
    return CrossRoom(book, [maps_put(prime, rows, square, undone) for square in cross.leads], falls)


@functools.lru_cache(None)
def cross_rooms():
    return {name: crosses_of(book) for name, book in small_books().items()}


def beside_plainly(one, other):
    """The falls of CrossRooms beside one another, pair by pair."""
    book, prime = one.book, one.book.prime
    falls = []
    for v in range(one.size):
        for w in range(other.size):
            total = [[0] * book.size for _ in range(one.size * other.size)]
            for s, y, number in plainrooms.pairs(one.falls[v]):
                for t, z, more in plainrooms.pairs(other.falls[w]):
                    guest = samples.unit(one.size * other.size, s * other.size + t)
                    plainrooms.add_pair(total, prime, number * more, guest, book.joins[z][y])
            falls.append(tuple(tuple(row) for row in total))
    return tuple(falls)


def exchange_plainly(one, other):
    """The map of room_exchange, guest by guest."""
    prime, things = one.book.prime, samples.plain(one.book.size)
    rows = []
    for v in samples.plain(one.size):
        for j in range(other.size):
            total = [0] * (one.size * other.size)
            for s, y, number in plainrooms.pairs(other.falls[j]):
                for t, more in enumerate(plainrooms.led(prime, one.leads, things[y], v)):
                    total[s * one.size + t] += number * more
            rows.append(tuple(number % prime for number in total))
    return tuple(rows)


def undone_plainly(one, other):
    """The map that leads w beside v to what the back of y leads v to, beside u, for the fall of w into (u, y)."""
    book, prime = one.book, one.book.prime
    rows = []
    for w in range(other.size):
        for v in samples.plain(one.size):
            total = [0] * (one.size * other.size)
            for u, y, number in plainrooms.pairs(other.falls[w]):
                for i, more in enumerate(plainrooms.led(prime, one.leads, book.back[y], v)):
                    total[i * other.size + u] += number * more
            rows.append(tuple(number % prime for number in total))
    return tuple(rows)


def leads_falls(one, other, rows):
    """Whether a map from one to other leads falls to falls; things stay."""
    prime = one.book.prime
    for i, guest in enumerate(samples.plain(one.size)):
        led = [plainly.lead(prime, rows, column) for column in zip(*one.falls[i])]
        if tuple(zip(*led)) != plainrooms.fall(prime, other.falls, plainly.lead(prime, rows, guest)):
            return False
    return True


def beside_maps(prime, rows, wide, ahead, behind):
    """The map rows on the middle of three, with plain guests ahead and behind."""
    found = []
    for a in range(ahead):
        for row in rows:
            for b in range(behind):
                line = [0] * (ahead * wide * behind)
                for j, number in enumerate(row):
                    line[(a * wide + j) * behind + b] = number % prime
                found.append(tuple(line))
    return found


class CrossRoomsTest(Case):

    def test_all_are_crosswise(self):
        seen = 0
        for name, crosses in cross_rooms().items():
            for cross in crosses:
                seen += 1
                with self.subTest(name=name):
                    self.assertIs(type(cross), CrossRoom)
                    self.assertEqual(sorted(vars(cross)), ["book", "falls", "leads", "size"])
                    self.numbers_within(cross.book.prime, cross.leads, 3)
                    self.numbers_within(cross.book.prime, cross.falls, 3)
                    self.assertIsNone(plainrooms.room_wrong(cross.book, cross.leads))
                    self.assertIsNone(plainrooms.falls_wrong(cross.book, cross.falls))
                    self.assertIsNone(plainrooms.cross_wrong(cross.book, cross.leads, cross.falls))
                    self.assertEqual(CrossRoom(cross.book, listed(cross.leads), listed(cross.falls)), cross)
        self.assertGreater(seen, 60)

    def test_turning(self):
        for name, book in samples.books().items():
            prime, n = book.prime, book.size
            if n > 6:
                continue
            undone = back_undone(book)
            with self.subTest(name=name):
                cross = turning_cross(book)
                self.assertEqual(cross.leads, turning_room(book).leads)
                for y in range(n):
                    total = [[0] * n for _ in range(n)]
                    for a, b, number in plainrooms.pairs(book.splits[y]):
                        plainrooms.add_pair(total, prime, number, samples.unit(n, b), undone[a])
                    self.assertEqual(cross.falls[y], tuple(tuple(row) for row in total))
                cross = turning_back_cross(book)
                self.assertEqual(cross.leads, turning_back_room(book).leads)
                self.assertEqual(cross.falls, book.splits)

    def test_larger_books(self):
        for name in ("slip 3", "shift 3 over 7, other basis", "level"):
            book = samples.books()[name]
            self.assertEqual(turning_cross(book).size, book.size)
            self.assertEqual(turning_back_cross(book).falls, book.splits)

    def test_crossing(self):
        seen = 0
        for name, book in small_books().items():
            if book.prime ** ((book.size - 1) ** 2) > 20000:
                continue
            for square in crossings(book)[:3]:
                for room in (own_room(book), count_room(book), turning_room(book)):
                    cross = self.unchanged(crossing_cross, room, [list(row) for row in square])
                    seen += 1
                    with self.subTest(name=name):
                        self.assertEqual(cross.leads, room.leads)
                        for i in range(room.size):
                            total = [[0] * book.size for _ in range(room.size)]
                            for j, k, number in plainrooms.pairs(square):
                                plainrooms.add_pair(total, book.prime, number, room.leads[k][i],
                                                    samples.unit(book.size, j))
                            self.assertEqual(cross.falls[i], tuple(tuple(row) for row in total))
                        spelled = [self.spelled(book.prime, row)[3] for row in square]
                        self.assertEqual(crossing_cross(room, spelled), cross)
        self.assertGreater(seen, 30)
        book = shift_book(5, 2, 4)
        whole = double(book)
        self.assertEqual(crossing_cross(count_room(whole), double_crossing(book)).falls, ((whole.one,),))

    def test_crossing_refused(self):
        book = group_book(3, samples.cyclic(2))
        for value in self.wrong_squares(2) + [[[0, 0], [0, 0]], [[1, 1], [1, 1]], [[True, 0], [0, 0]]]:
            self.refused(BadCrossing, None, crossing_cross, own_room(book), value)
        self.wants_rooms(crossing_cross, 1, None)
        self.refused(BadRoom, None, crossing_cross, turning_cross(book), [[1, 0], [0, 0]])

    def test_beside_and_exchange(self):
        seen = 0
        for name, crosses in cross_rooms().items():
            book = crosses[0].book
            for at, one in enumerate(crosses):
                for other in crosses[at % 2::2]:
                    if one.size * other.size > 9:
                        continue
                    seen += 1
                    with self.subTest(name=name):
                        beside = beside_cross(one, other)
                        self.assertIs(type(beside), CrossRoom)
                        rooms = Room(book, one.leads), Room(book, other.leads)
                        self.assertEqual(beside.leads, beside_rooms(*rooms).leads)
                        self.assertEqual(beside.falls, beside_plainly(one, other))
                        turned = beside_cross(other, one)
                        rows = room_exchange(one, other)
                        self.numbers_within(book.prime, rows, 2)
                        self.assertEqual(rows, exchange_plainly(one, other))
                        self.assertIs(is_along(Room(book, beside.leads), Room(book, turned.leads), rows), True)
                        self.assertTrue(leads_falls(beside, turned, rows))
                        plain = samples.plain(one.size * other.size)
                        self.assertEqual(maps_put(book.prime, rows, undone_plainly(one, other)), plain)
                        self.assertEqual(maps_put(book.prime, undone_plainly(one, other), rows), plain)
        self.assertGreater(seen, 100)

    def test_three_exchanged(self):
        """First with second, first with third, second with third, or in the other sequence."""
        seen = 0
        for crosses in cross_rooms().values():
            prime = crosses[0].book.prime
            for one, two, three in ((crosses[0], crosses[1], crosses[-1]), (crosses[1], crosses[2], crosses[0]),
                                    (crosses[-1], crosses[-1], crosses[2]), (crosses[0], crosses[0], crosses[0])):
                m, n, s = one.size, two.size, three.size
                if m * n * s > 27:
                    continue
                seen += m * n * s > 8
                first = maps_put(prime, beside_maps(prime, room_exchange(one, two), m * n, 1, s),
                                 beside_maps(prime, room_exchange(one, three), m * s, n, 1),
                                 beside_maps(prime, room_exchange(two, three), n * s, 1, m))
                last = maps_put(prime, beside_maps(prime, room_exchange(two, three), n * s, m, 1),
                                beside_maps(prime, room_exchange(one, three), m * s, 1, n),
                                beside_maps(prime, room_exchange(one, two), m * n, s, 1))
                self.assertEqual(first, last)
        self.assertGreater(seen, 10)

    def test_double_rooms(self):
        seen = 0
        for name, crosses in cross_rooms().items():
            book = crosses[0].book
            prime, n = book.prime, book.size
            for cross in crosses if n < 4 else crosses[1:3]:
                room = double_room(cross)
                seen += 1
                with self.subTest(name=name):
                    self.assertIs(type(room), Room)
                    self.assertEqual((room.book, room.size), (double(book), cross.size))
                    for i in range(n):
                        for k in range(n):
                            for v in range(cross.size):
                                fallen = plainrooms.fall(prime, cross.falls, cross.leads[k][v])
                                self.assertEqual(room.leads[i * n + k][v], tuple(row[i] for row in fallen))
                    again = self.unchanged(cross_of, book, room)
                    self.assertIs(type(again), CrossRoom)
                    self.assertEqual(again, cross)
        self.assertGreater(seen, 40)

    def test_rooms_of_doubles(self):
        """Each room of the double is that of a CrossRoom."""
        for name, book in small_books().items():
            whole = double(book)
            if book.size > 3 and book.prime > 3:
                continue
            for room in (own_room(whole), count_room(whole), rooms_together(count_room(whole), own_room(whole))):
                with self.subTest(name=name):
                    cross = cross_of(book, room)
                    self.assertEqual(double_room(cross), room)
                    self.assertEqual(cross.size, room.size)

    def test_exchange_by_the_double(self):
        for name, crosses in cross_rooms().items():
            book = crosses[0].book
            square = double_crossing(book)
            pairs = [(crosses[0], crosses[1]), (crosses[1], crosses[0]), (crosses[0], crosses[-1])]
            for one, other in pairs if book.size < 4 else pairs[:1]:
                first = crossing_cross(double_room(one), square)
                last = crossing_cross(double_room(other), square)
                with self.subTest(name=name):
                    self.assertEqual(room_exchange(first, last), room_exchange(one, other))

    def test_cross_faults(self):
        """Leads and falls that are right by themselves cross just if they are a room of the double."""
        told = {None: 0}
        names = ["two and two over 3", "slip 2", "two and two over 3, other way", "slanted 2"]
        for name, book in {**small_books(), **{name: samples.books()[name] for name in names}}.items():
            if book.size == 1:
                continue
            whole = double(book) if book.size < 4 else None
            leads = [turning_room(book).leads, turning_back_room(book).leads]
            pairs = not_together(book) + [(one, table) for one in leads for table in (
                book.splits, turning_cross(book).falls, falls_of(own_room(other_way(book))))]
            for leads, falls in pairs:
                wanted = plainrooms.cross_wrong(book, leads, falls)
                with self.subTest(name=name):
                    if wanted is None:
                        told[None] += 1
                        self.assertEqual(CrossRoom(book, leads, falls).size, len(falls))
                    else:
                        told[wanted] = True
                        self.refused(BadRoom, wanted, CrossRoom, book, leads, falls)
                    if whole is not None:
                        n = book.size
                        table = [[[row[i] for row in plainrooms.fall(book.prime, falls, guest)] for guest in leads[k]]
                                 for i in range(n) for k in range(n)]
                        self.assertIs(room_fault(whole, table) is None, wanted is None)
        self.assertGreater(len(told), 6)
        self.assertGreater(told.pop(None), 10)
        self.assertGreater(max(told)[1], 1)

    def test_each_place_changed(self):
        told = {}
        for name in ("two over 3, other basis", "brackets 2, power 1, other basis", "three over 3"):
            book = some_books()[name]
            for cross in (turning_cross(book), turning_back_cross(book)):
                for change in range(cross.size ** 2 * book.size):
                    i, j, k = change // cross.size // book.size, change // book.size % cross.size, change % book.size
                    for which in (0, 1):
                        leads, falls = listed(cross.leads), listed(cross.falls)
                        if which:
                            falls[i][j][k] += 1
                        else:
                            leads[k][i][j] += 1
                        wanted = plainrooms.room_wrong(book, leads) or plainrooms.falls_wrong(
                            book, falls) or plainrooms.cross_wrong(book, leads, falls)
                        if wanted is None:
                            CrossRoom(book, leads, falls)
                        else:
                            told[wanted[0]] = told.get(wanted[0], 0) + 1
                            self.refused(BadRoom, wanted, CrossRoom, book, leads, falls)
        self.assertEqual(sorted(told), ["counts", "cross", "falls", "leads", "one"])

    def test_shapes(self):
        book = group_book(3, samples.cyclic(2))
        good = turning_cross(book)
        for value in samples.STRANGE + [[], [[[1]]], [[[1]], [[1, 0]]]]:
            self.refused(BadShape, "leads", CrossRoom, book, value, None)
            self.refused(BadShape, "falls", CrossRoom, book, good.leads, value)
        self.refused(BadShape, "falls", CrossRoom, book, [[[1]], [[1]]], good.falls)
        self.refused(BadShape, "falls", CrossRoom, book, [[[0]], [[1]]], None)
        self.refused(BadRoom, ("one", 0), CrossRoom, book, [[[0]], [[1]]], [[[0, 0]]])
        self.refused(BadRoom, ("counts", 0), CrossRoom, book, [[[1]], [[1]]], [[[0, 0]]])
        self.assertEqual(CrossRoom(book, [[[1]], [[2]]], [[[0, 1]]]).falls, (((0, 1),),))
        self.wants_books(CrossRoom, 1, [[[1]]], [[[1]]])

    def test_equal(self):
        book = group_book(3, samples.cyclic(2))
        cross = turning_cross(book)
        self.assertEqual(cross, turning_cross(group_book(3, samples.cyclic(2))))
        self.assertNotEqual(cross, turning_cross(group_book(5, samples.cyclic(2))))
        self.assertNotEqual(CrossRoom(book, [[[1]], [[1]]], [[[1, 0]]]), CrossRoom(book, [[[1]], [[1]]], [[[0, 1]]]))
        self.assertNotEqual(CrossRoom(book, [[[1]], [[1]]], [[[1, 0]]]), CrossRoom(book, [[[1]], [[2]]], [[[1, 0]]]))
        for value in (Room(book, cross.leads), free_both(book, 1), cross.leads, None, book, (cross,)):
            self.assertFalse(cross == value)
            self.assertFalse(value == cross)

    def test_limits(self):
        book = group_book(5, samples.cyclic(6))
        cross = turning_cross(book)
        self.assertEqual(beside_cross(cross, cross).size, 36)
        self.assertEqual(len(room_exchange(cross, cross)), 36)
        wide = CrossRoom(book, rooms_together(Room(book, cross.leads), count_room(book)).leads,
                         [list(table) + [[0] * 6] for table in cross.falls] + [[[0] * 6] * 6 + [book.one]])
        for function in (beside_cross, room_exchange):
            self.refused(TooMany, 36, function, wide, cross)
            self.refused(TooMany, 36, function, cross, wide)
        five = group_book(3, samples.cyclic(5))
        self.refused(TooMany, 16, double_room, turning_cross(five))
        self.refused(TooMany, 16, cross_of, five, own_room(five))
        self.refused(TooMany, 16, cross_of, five, count_room(group_book(3, [[0]])))

    def test_refused(self):
        book = group_book(3, samples.cyclic(2))
        cross, more = turning_cross(book), turning_cross(group_book(5, samples.cyclic(2)))
        for value in samples.STRANGE + [own_room(book), free_both(book, 1), book, [cross]]:
            self.refused(BadRoom, None, beside_cross, value, more)
            self.refused(BadRoom, None, beside_cross, cross, value)
            self.refused(BadRoom, None, room_exchange, value, value)
            self.refused(BadRoom, None, room_exchange, cross, value)
            self.refused(BadRoom, None, double_room, value)
            if type(value) is not Room:
                self.refused(BadRoom, None, cross_of, book, value)
                self.refused(BadBook, None, cross_of, None, value)
        for function in (beside_cross, room_exchange):
            self.refused(BadShape, "book", function, cross, more)
        self.refused(BadRoom, None, cross_of, book, cross)
        self.refused(BadShape, "book", cross_of, book, own_room(book))
        self.refused(BadShape, "book", cross_of, book, count_room(double(group_book(5, samples.cyclic(2)))))
        self.refused(BadShape, "book", cross_of, other_way(shift_book(3, 2, 2)), count_room(double(shift_book(3, 2, 2))))
        self.refused(BadShape, "book", cross_of, book, own_room(group_book(3, samples.FOUR)))
        for function in (turning_cross, turning_back_cross):
            self.wants_books(function, 1)
        self.wants_books(cross_of, 1, own_room(book))


if __name__ == "__main__":
    unittest.main()
