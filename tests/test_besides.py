"""Point 71: rooms beside one another, together, and turned about."""

import unittest

from splitbooks.besides import beside_rooms, rooms_together, turned_back_room, turned_room
from splitbooks.doings import back_undone, backed
from splitbooks.errors import TooMany
from splitbooks.families import group_book
from splitbooks.rooms import Room, count_room, led_guest, own_room
from tests import plainly, plainrooms, samples
from tests.helping import Case
from tests.roomsamples import few_rooms, some_books, some_rooms


def beside_plainly(one, other):
    """The leads of rooms beside one another, pair by pair."""
    book, prime = one.book, one.book.prime
    size = one.size * other.size
    leads = []
    for square in book.splits:
        total = [[0] * size for _ in range(size)]
        for a, b, number in plainrooms.pairs(square):
            for i in range(one.size):
                for j in range(other.size):
                    for s in range(one.size):
                        for t in range(other.size):
                            more = number * one.leads[a][i][s] * other.leads[b][j][t]
                            total[i * other.size + j][s * other.size + t] += more
        leads.append(tuple(tuple(number % prime for number in row) for row in total))
    return tuple(leads)


def turned_plainly(room, back):
    """The leads of the rows of guests, told one by one."""
    book, prime = room.book, room.book.prime
    guests = samples.plain(room.size)
    return tuple(tuple(tuple(plainrooms.led(prime, room.leads, back[x], guests[v])[k] for v in range(room.size))
                       for k in range(room.size)) for x in range(book.size))


def pairs_of(rooms):
    """Pairs of rooms of one book."""
    rooms = list(rooms)
    return [(one, other) for one in rooms for other in rooms if one.book == other.book]


class BesidesTest(Case):

    def test_beside(self):
        seen = 0
        for one, other in pairs_of(few_rooms(4).values()):
            if one.size * other.size <= 9 and (one.size + other.size) % 2:
                found = beside_rooms(one, other)
                seen += 1
                self.assertIs(type(found), Room)
                self.assertEqual(found.leads, beside_plainly(one, other))
                self.assertEqual((found.book, found.size), (one.book, one.size * other.size))
        self.assertGreater(seen, 100)

    def test_beside_of_larger_books(self):
        for name in ("six over 5, other basis", "slip 3", "shift beside two, other basis"):
            book = samples.books()[name]
            one = rooms_together(count_room(book), count_room(book))
            for other in (count_room(book), one):
                for first, second in ((one, other), (other, one)):
                    self.assertEqual(beside_rooms(first, second).leads, beside_plainly(first, second))
            own = own_room(book)
            for first, second in ((count_room(book), own), (own, count_room(book))):
                self.assertEqual(beside_rooms(first, second), own)

    def test_sequence_of_three(self):
        for name, book in some_books().items():
            if book.size > 3:
                continue
            rooms = [own_room(book), count_room(book), turned_room(own_room(book)), rooms_together(*[count_room(book)] * 2)]
            for one in rooms:
                for two in rooms:
                    for three in rooms:
                        if one.size * two.size * three.size <= 36:
                            with self.subTest(name=name):
                                self.assertEqual(beside_rooms(beside_rooms(one, two), three),
                                                 beside_rooms(one, beside_rooms(two, three)))
                self.assertEqual(beside_rooms(count_room(book), one), one)
                self.assertEqual(beside_rooms(one, count_room(book)), one)

    def test_together(self):
        for one, other in pairs_of(few_rooms(5).values()):
            found = rooms_together(one, other)
            prime = one.book.prime
            self.assertIs(type(found), Room)
            self.assertEqual(found.size, one.size + other.size)
            v, w = samples.some_basis(one.size, prime)[0], samples.some_basis(other.size, prime)[0]
            for x in samples.plain(one.book.size):
                self.assertEqual(led_guest(found, x, v + w), led_guest(one, x, v) + led_guest(other, x, w))

    def test_turned(self):
        for name, room in some_rooms().items():
            book = room.book
            with self.subTest(name=name):
                turned, back = turned_room(room), turned_back_room(room)
                self.assertIs(type(turned), Room)
                self.assertIs(type(back), Room)
                if room.size * book.size <= 24:
                    self.assertEqual(turned.leads, turned_plainly(room, book.back))
                    self.assertEqual(back.leads, turned_plainly(room, back_undone(book)))
                self.assertEqual(turned_back_room(turned), room)
                self.assertEqual(turned_room(back), room)
                twice = turned_room(turned)
                for k, x in enumerate(samples.plain(book.size)):
                    wanted = tuple(led_guest(room, backed(book, backed(book, x)), v) for v in samples.plain(room.size))
                    self.assertEqual(twice.leads[k], wanted)

    def test_turned_beside(self):
        seen = 0
        for one, other in pairs_of(few_rooms(3).values()):
            m, n = one.size, other.size
            turned = turned_room(beside_rooms(one, other))
            wanted = beside_rooms(turned_room(other), turned_room(one))
            # Guest j * m + i of the one is guest i * n + j of the other.
            place = [j * m + i for i in range(m) for j in range(n)]
            for first, second in zip(turned.leads, wanted.leads):
                self.assertEqual(first, tuple(tuple(second[p][q] for q in place) for p in place))
            seen += m > 1 and n > 1
        self.assertGreater(seen, 20)

    def test_limits(self):
        book = group_book(3, samples.cyclic(2))
        count = count_room(book)
        rooms = {1: count}
        for size in range(2, 37):
            rooms[size] = rooms_together(rooms[size - 1], count)
        self.assertEqual(rooms[36].size, 36)
        for m, n in ((1, 36), (36, 1), (6, 6), (4, 9), (2, 18)):
            self.assertEqual(beside_rooms(rooms[m], rooms[n]).size, 36)
        for m, n in ((37, 1), (36, 2), (2, 19), (6, 7), (36, 36)):
            if m <= 36:
                self.refused(TooMany, 36, beside_rooms, rooms[m], rooms[n])
        for m, n in ((35, 1), (1, 35), (18, 18)):
            self.assertEqual(rooms_together(rooms[m], rooms[n]).size, 36)
        for m, n in ((36, 1), (1, 36), (18, 19), (36, 36)):
            self.refused(TooMany, 36, rooms_together, rooms[m], rooms[n])

    def test_no_rooms(self):
        for function in (beside_rooms, rooms_together):
            self.wants_rooms(function, 2)
        for function in (turned_room, turned_back_room):
            self.wants_rooms(function, 1)

    def test_books_are_told_ahead_of_sizes(self):
        one, other = group_book(3, samples.cyclic(2)), group_book(5, samples.cyclic(2))
        wide = [own_room(one), own_room(other)]
        for _ in range(4):
            wide = [rooms_together(room, room) for room in wide]
        from splitbooks.errors import BadShape
        self.refused(BadShape, "book", beside_rooms, *wide)
        self.refused(BadShape, "book", rooms_together, *wide)
        self.assertEqual(plainly.rank(wide[0].leads[1], 3), 32)


if __name__ == "__main__":
    unittest.main()
