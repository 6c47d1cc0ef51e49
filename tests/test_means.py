"""Point 73: means of maps, rooms that are spread, and what is parted off."""

import itertools
import unittest

from splitbooks.alongs import alongs, grown_guests, inner_room, is_along, is_inner, left_alone
from splitbooks.besides import beside_rooms, rooms_together, turned_back_room, turned_room
from splitbooks.doings import counted
from splitbooks.errors import BadBasis, BadMap, TooMany
from splitbooks.families import group_book
from splitbooks.means import mean_map, parting, spread_map
from splitbooks.rooms import Room, count_room, own_room
from splitbooks.swallowed import swallowed_left
from tests import plainly, plainrooms, samples
from tests.helping import Case
from tests.roomsamples import few_rooms, maps_put, some_books, some_rooms
from tests.test_alongs import flat, goes
from tests.test_besides import pairs_of


def some_map(prime, wide, high, seed=1):
    rows = samples.some_basis(max(wide, high), prime, seed)
    return [row[:high] for row in rows[:wide]]


def times(prime, number, rows):
    return tuple(tuple(number * n % prime for n in row) for row in rows)


def is_spread_plainly(room):
    """Whether the plain map is a sum of the means of all maps that have 1 at one place."""
    prime, size = room.book.prime, room.size
    means = []
    for p in range(size):
        for q in range(size):
            means.append(flat(plainrooms.mean(room, room, [[int((i, j) == (p, q)) for j in range(size)]
                                                           for i in range(size)])))
    return plainly.is_sum(flat(samples.plain(size)), means, prime)


class MeansTest(Case):

    def test_mean(self):
        for at, (one, other) in enumerate(pairs_of(some_rooms().values())):
            if one.size * other.size * one.book.size ** 2 > 400 or at % 4:
                continue
            prime = one.book.prime
            rows = some_map(prime, one.size, other.size)
            found = self.unchanged(mean_map, one, other, rows)
            self.numbers_within(prime, found, 2)
            self.assertEqual(found, plainrooms.mean(one, other, rows))
            self.assertTrue(goes(one, other, found))
            self.assertEqual(found, mean_map(one, other, tuple(self.spelled(prime, row)[3] for row in rows)))

    def test_means_go_along(self):
        for at, (one, other) in enumerate(pairs_of(some_rooms().values())):
            if at % 5 == 0:
                prime = one.book.prime
                found = mean_map(one, other, some_map(prime, one.size, other.size, 2))
                self.assertIs(is_along(one, other, found), True)

    def test_means_with_alongs(self):
        for one, other in pairs_of(few_rooms(4).values()):
            book, prime = one.book, one.book.prime
            count = counted(book, swallowed_left(book))
            maps = alongs(one, other)
            for m in maps[:2]:
                self.assertEqual(mean_map(one, other, m), times(prime, count, m))
                rows = some_map(prime, other.size, one.size, 3)
                mean = mean_map(other, one, rows)
                self.assertEqual(mean_map(one, one, maps_put(prime, m, rows)), maps_put(prime, m, mean))
                self.assertEqual(mean_map(other, other, maps_put(prime, rows, m)), maps_put(prime, mean, m))

    def test_mean_refused(self):
        book = group_book(3, samples.cyclic(2))
        own, count = own_room(book), count_room(book)
        for value in self.wrong_squares(2):
            self.refused(BadMap, None, mean_map, own, own, value)
        for value in samples.STRANGE + [[[1, 1]], [[1], [1], [1]], [[1], [True]], [[1]], [1, 1]]:
            self.refused(BadMap, None, mean_map, own, count, value)
        self.assertEqual(mean_map(own, count, [[1], [2]]), ((0,), (0,)))
        self.assertEqual(mean_map(own, count, [[1], [4]]), ((2,), (2,)))
        self.wants_rooms(mean_map, 2, None)

    def test_spread(self):
        both = {True: 0, False: 0}
        for name, room in some_rooms().items():
            book, prime = room.book, room.book.prime
            if room.size > 10:
                self.refused(TooMany, 100, spread_map, room)
                continue
            with self.subTest(name=name):
                found = spread_map(room)
                both[found is not None] += 1
                self.assertEqual(found, spread_map(Room(book, room.leads)))
                if found is None:
                    self.assertEqual(counted(book, swallowed_left(book)), 0)
                else:
                    self.numbers_within(prime, found, 2)
                    self.assertEqual(mean_map(room, room, found), samples.plain(room.size))
                if room.size ** 2 * book.size <= 40:
                    self.assertIs(found is not None, is_spread_plainly(room))
                for turned in (turned_room(room), turned_back_room(room)):
                    self.assertIs(spread_map(turned) is None, found is None)
        self.assertGreater(min(both.values()), 40)

    def test_spread_of_books(self):
        for name, book in samples.more_books().items():
            if book.size > 10:
                continue
            with self.subTest(name=name):
                self.assertIsNotNone(spread_map(own_room(book)))
                apart = counted(book, swallowed_left(book)) != 0
                self.assertIs(spread_map(count_room(book)) is not None, apart)

    def test_beside_a_spread_room(self):
        seen = 0
        for one, other in pairs_of(few_rooms(4).values()):
            if one.size * other.size <= 8 and spread_map(one) is not None:
                seen += spread_map(other) is None
                self.assertIsNotNone(spread_map(beside_rooms(one, other)))
                self.assertIsNotNone(spread_map(beside_rooms(other, one)))
        self.assertGreater(seen, 20)

    def test_spread_through_own_rooms(self):
        """Spread exactly if the plain map is made of maps that go along to own rooms and back."""
        seen = {True: 0, False: 0}
        for name, room in few_rooms(5).items():
            own = own_room(room.book)
            through = [flat(maps_put(room.book.prime, m, n)) for m in alongs(room, own) for n in alongs(own, room)]
            told = plainly.is_sum(flat(samples.plain(room.size)), through, room.book.prime)
            with self.subTest(name=name):
                self.assertIs(spread_map(room) is not None, told)
            seen[told] += 1
        self.assertGreater(min(seen.values()), 10)

    def test_spread_limit(self):
        book = group_book(2, samples.cyclic(2))
        room = own_room(book)
        for _ in range(4):
            room = rooms_together(room, own_room(book))
        self.assertEqual(mean_map(room, room, spread_map(room)), samples.plain(10))
        self.refused(TooMany, 100, spread_map, rooms_together(room, count_room(book)))
        self.wants_rooms(spread_map, 1)
        self.assertIsNone(spread_map(count_room(book)))
        self.assertEqual(spread_map(count_room(group_book(3, samples.cyclic(2)))), ((2,),))


class PartingTest(Case):

    def parts_well(self, room, guests, rows):
        """Whether a map goes along, keeps guests and leads all to sums of them."""
        prime = room.book.prime
        return (is_along(room, room, rows)
                and all(plainly.lead(prime, rows, guest) == tuple(n % prime for n in guest) for guest in guests)
                and all(plainly.is_sum(row, guests, prime) for row in rows))

    def test_parting(self):
        both = {True: 0, False: 0}
        for name, room in some_rooms().items():
            book, prime = room.book, room.book.prime
            rows = [[n % prime for n in row] for row in samples.some_basis(room.size, prime, 4)]
            for guests in (left_alone(room), grown_guests(room, rows[:1]), grown_guests(room, left_alone(room) + rows[:1]),
                           list(samples.plain(room.size)), [list(row) for row in reversed(grown_guests(room, rows[1:2]))]):
                if not is_inner(room, guests):
                    continue
                if room.size * len(guests) > 100:
                    self.refused(TooMany, 100, parting, room, guests)
                    continue
                with self.subTest(name=name, guests=guests):
                    found = self.unchanged(parting, room, guests)
                    self.assertEqual(found, parting(room, tuple(self.spelled(prime, row)[1] for row in guests)))
                    both[found is not None] += 1
                    if found is not None:
                        self.numbers_within(prime, found, 2)
                        self.assertTrue(self.parts_well(room, guests, found))
                    elif room.size <= 5:
                        self.assertFalse(self.can_be_parted(room, guests))
                    if len(guests) <= 10 and spread_map(inner_room(room, guests)) is not None:
                        self.assertIsNotNone(found)
        self.assertGreater(min(both.values()), 40)

    def can_be_parted(self, room, guests):
        """Whether some sum of the maps that go along to the inner room keeps the guests."""
        prime, many = room.book.prime, len(guests)
        maps = alongs(room, inner_room(room, guests))
        kept = [flat([plainly.lead(prime, m, [n % prime for n in guest]) for guest in guests]) for m in maps]
        return plainly.is_sum(flat(samples.plain(many)), kept, prime) if kept else False

    def test_things_of_count_0(self):
        for name, book in some_books().items():
            if book.size == 1 or book.size * (book.size - 1) > 100:
                continue
            less = [tuple((a - c * b) % book.prime for a, b in zip(thing, book.one))
                    for thing, c in zip(samples.plain(book.size), book.counts)]
            guests = plainly.tidy(less, book.prime)
            with self.subTest(name=name):
                self.assertTrue(is_inner(own_room(book), guests))
                found = parting(own_room(book), guests)
                self.assertIs(found is not None, counted(book, swallowed_left(book)) != 0)

    def test_refused(self):
        room = own_room(group_book(3, samples.cyclic(2)))
        for value in samples.STRANGE + [[], [[1, 0]], [[1, 1], [2, 2]], [[0, 0]], [[1, 1], [1, True]], [1, 1], [[1]],
                                        [[1, 0], [0, 1], [1, 1]]]:
            self.refused(BadBasis, None, parting, room, value)
        self.wants_rooms(parting, 1, None)

    def test_limit(self):
        book = group_book(2, samples.cyclic(2))
        count = count_room(book)
        rooms = {1: count}
        for size in range(2, 37):
            rooms[size] = rooms_together(rooms[size - 1], count)
        for size, many in ((36, 2), (33, 3), (25, 4), (20, 5), (10, 10), (9, 9), (36, 1)):
            guests = samples.plain(size)[:many]
            self.assertTrue(self.parts_well(rooms[size], guests, parting(rooms[size], guests)))
        for size, many in ((36, 3), (34, 3), (26, 4), (21, 5), (11, 10), (11, 11), (36, 36)):
            self.refused(TooMany, 100, parting, rooms[size], samples.plain(size)[:many])
        self.refused(BadBasis, None, parting, rooms[36], [[0] * 36] * 3)

    def test_all_partings_of_few_guests(self):
        """None just where no map at all will do."""
        book = group_book(2, samples.cyclic(2))
        for room in (own_room(book), Room(book, [[[1, 0], [0, 1]], [[0, 1], [1, 0]]]),
                     Room(book, [[[1, 0], [0, 1]], [[1, 0], [1, 1]]])):
            for guests in ([(1, 1)], [(1, 0)], [(0, 1)]):
                if is_inner(room, guests):
                    maps = itertools.product(itertools.product(range(2), repeat=2), repeat=2)
                    some = any(self.parts_well(room, guests, m) for m in maps)
                    self.assertIs(parting(room, guests) is not None, some)


if __name__ == "__main__":
    unittest.main()
