"""Point 72: maps that go along, guests left alone, inner lists and what is left over."""

import itertools
import unittest

from splitbooks.alongs import alongs, grown_guests, inner_room, is_along, is_inner, left_alone, left_over
from splitbooks.besides import beside_rooms, rooms_together, turned_back_room, turned_room
from splitbooks.errors import BadBasis, BadRow, TooMany
from splitbooks.families import group_book
from splitbooks.rooms import Room, count_room, led_guest, own_room
from splitbooks.swallowed import swallowed_left
from tests import plainly, plainrooms, samples
from tests.helping import Case
from tests.roomsamples import few_rooms, some_books, some_rooms
from tests.test_besides import pairs_of


def goes(one, other, rows):
    """Whether each thing and the map may be put one after the other in either sequence."""
    prime = one.book.prime
    for x in samples.plain(one.book.size):
        for v in samples.plain(one.size):
            first = plainly.lead(prime, rows, plainrooms.led(prime, one.leads, x, v))
            if first != plainrooms.led(prime, other.leads, x, plainly.lead(prime, rows, v)):
                return False
    return True


def flat(rows):
    return tuple(number for row in rows for number in row)


def is_inner_plainly(room, rows):
    prime = room.book.prime
    if not rows or plainly.rank(rows, prime) < len(rows):
        return False
    return all(plainly.is_sum(plainrooms.led(prime, room.leads, x, [n % prime for n in row]), rows, prime)
               for x in samples.plain(room.book.size) for row in rows)


class AlongsTest(Case):

    def test_all_maps(self):
        """Of all maps between small rooms, just those that are sums of alongs go along."""
        both = {True: 0, False: 0}
        for one, other in pairs_of(few_rooms(4).values()):
            prime = one.book.prime
            if prime ** (one.size * other.size) > 200:
                continue
            found = alongs(one, other)
            rows = [flat(m) for m in found]
            self.is_tidy(prime, one.size * other.size, rows)
            for m in found:
                self.numbers_within(prime, m, 2)
                self.assertEqual((len(m), len(m[0])), (one.size, other.size))
            for numbers in itertools.product(range(prime), repeat=one.size * other.size):
                square = [numbers[k:k + other.size] for k in range(0, len(numbers), other.size)]
                told = goes(one, other, square)
                both[told] += 1
                self.assertIs(is_along(one, other, square), told)
                self.assertIs(plainly.is_sum(numbers, rows, prime), told)
        self.assertGreater(min(both.values()), 200)

    def test_alongs(self):
        for one, other in pairs_of(some_rooms().values()):
            if one.size * other.size > 30 or one.size + other.size < 5:
                continue
            book = one.book
            found = alongs(one, other)
            self.is_tidy(book.prime, one.size * other.size, [flat(m) for m in found])
            if book.size <= 4:
                for m in found:
                    self.assertTrue(goes(one, other, m))
            for m in found:
                self.assertIs(is_along(one, other, m), True)
                self.assertIs(is_along(one, other, [self.spelled(book.prime, row)[k % 4] for k, row in enumerate(m)]),
                              True)
                worse = [list(row) for row in m]
                worse[-1][0] += 1
                if book.size <= 4:
                    self.assertIs(is_along(one, other, worse), goes(one, other, worse))
            # As many as guests are left alone of rows of one beside other.
            self.assertEqual(len(found), len(left_alone(beside_rooms(other, turned_room(one)))))

    def test_left_alone_are_alongs(self):
        for one, other in pairs_of(few_rooms(3).values()):
            guests = left_alone(beside_rooms(other, turned_room(one)))
            for guest in guests:
                m = [[guest[j * one.size + i] for j in range(other.size)] for i in range(one.size)]
                self.assertTrue(is_along(one, other, m))

    def test_alongs_of_own_rooms(self):
        for name, room in some_rooms().items():
            own = own_room(room.book)
            if own.size * room.size <= 50:
                with self.subTest(name=name):
                    self.assertEqual(len(alongs(own, room)), room.size)

    def test_middle_moved_over(self):
        """Maps from rooms beside one another, and what they are once the middle room is turned about."""
        seen = 0
        rooms = [room for at, room in enumerate(few_rooms(3).values()) if at % 3 == 0]
        for one, middle in pairs_of(rooms):
            for other in (room for room in rooms if room.book == one.book):
                if one.size * middle.size * other.size > 12 or one.size + middle.size + other.size < 5:
                    continue
                m, n, s = one.size, middle.size, other.size
                seen += 1
                chance = samples.some_basis(m * n * s, one.book.prime)[0]
                for numbers in [flat(rows) for rows in alongs(beside_rooms(one, middle), other)] + [chance]:
                    rows = [[numbers[(i * n + j) * s + k] for k in range(s)] for i in range(m) for j in range(n)]
                    turned = [[rows[i * n + j][k] for k in range(s) for j in range(n)] for i in range(m)]
                    self.assertEqual(is_along(beside_rooms(one, middle), other, rows),
                                     is_along(one, beside_rooms(other, turned_room(middle)), turned))
                for numbers in [flat(rows) for rows in alongs(beside_rooms(middle, one), other)] + [chance]:
                    rows = [[numbers[(j * m + i) * s + k] for k in range(s)] for j in range(n) for i in range(m)]
                    turned = [[rows[j * m + i][k] for j in range(n) for k in range(s)] for i in range(m)]
                    self.assertEqual(is_along(beside_rooms(middle, one), other, rows),
                                     is_along(one, beside_rooms(turned_back_room(middle), other), turned))
        self.assertGreater(seen, 100)

    def test_any_value(self):
        book = group_book(3, samples.cyclic(2))
        own, count = own_room(book), count_room(book)
        for value in samples.STRANGE + self.wrong_squares(2) + [[[1], [1]], [[1, 1]], ((1, 0), (0, 1), (0, 0)), own]:
            self.assertIs(is_along(own, own, value), False)
        self.assertIs(is_along(own, own, [[1, 0], [0, 1]]), True)
        self.assertIs(is_along(own, own, ([4, -3], (0, -2))), True)
        self.assertIs(is_along(own, own, [[1, 0], [0, True]]), False)
        self.assertIs(is_along(own, count, [[1], [1]]), True)
        self.assertIs(is_along(own, count, [[1], [2]]), False)
        self.assertIs(is_along(own, count, [[1, 1]]), False)
        self.assertIs(is_along(count, own, [[1, 1]]), True)
        self.assertIs(is_along(own, own, [[0, 0], [0, 0]]), True)

    def test_limit_of_alongs(self):
        book = group_book(2, samples.cyclic(3))
        count = count_room(book)
        rooms = {1: count}
        for size in range(2, 37):
            rooms[size] = rooms_together(rooms[size - 1], count)
        for m, n in ((10, 10), (4, 25), (25, 4), (36, 2), (3, 33), (33, 3)):
            self.assertEqual(len(alongs(rooms[m], rooms[n])), m * n)
        for m, n in ((10, 11), (11, 10), (3, 34), (34, 3), (36, 36), (13, 8)):
            self.refused(TooMany, 100, alongs, rooms[m], rooms[n])
        self.assertIs(is_along(rooms[36], rooms[36], samples.plain(36)), True)

    def test_left_alone(self):
        for name, room in some_rooms().items():
            book, prime = room.book, room.book.prime
            with self.subTest(name=name):
                found = left_alone(room)
                self.is_tidy(prime, room.size, found)
                if prime ** room.size <= 100:
                    for guest in samples.all_rows(prime, room.size):
                        alone = all(plainrooms.led(prime, room.leads, x, guest) == tuple(c * n % prime for n in guest)
                                    for x, c in zip(samples.plain(book.size), book.counts))
                        self.assertIs(plainly.is_sum(guest, found, prime), alone)
                for guest in found:
                    for x, c in zip(samples.plain(book.size), book.counts):
                        self.assertEqual(led_guest(room, x, guest), tuple(c * n % prime for n in guest))
        for book in some_books().values():
            self.assertEqual(left_alone(own_room(book)), [swallowed_left(book)])
            self.assertEqual(left_alone(count_room(book)), [(1,)])

    def test_grown(self):
        for name, room in some_rooms().items():
            prime = room.book.prime
            with self.subTest(name=name):
                rows = samples.some_basis(room.size, prime, 6)
                for guests in ([], [[0] * room.size], rows[:1], rows[:1] * 2, rows[:2], left_alone(room), rows * 2):
                    found = self.unchanged(grown_guests, room, guests)
                    self.is_tidy(prime, room.size, found)
                    if room.size * room.book.size <= 20:
                        led = [plainrooms.led(prime, room.leads, x, [n % prime for n in guest])
                               for x in samples.plain(room.book.size) for guest in guests]
                        self.assertEqual(found, plainly.tidy(led, prime))
                self.assertEqual(found, list(samples.plain(room.size)))
                self.assertEqual(grown_guests(room, tuple(rows[:1])), grown_guests(room, [tuple(rows[0])]))
                self.keeps_lists(grown_guests, room, rows[:1])
                self.keeps_lists(left_alone, room)

    def test_grown_refused(self):
        room = own_room(group_book(3, samples.cyclic(2)))
        for value in self.wrong_rows(2):
            if type(value) not in (list, tuple) or value not in ([], (), [[1, 1]]):
                self.refused(BadRow, None, grown_guests, room, value)
            self.refused(BadRow, None, grown_guests, room, [value, (1, 0)])
            self.refused(BadRow, None, grown_guests, room, [(1, 0), value])

    def test_inner(self):
        both = {True: 0, False: 0}
        for name, room in some_rooms().items():
            prime = room.book.prime
            if room.size > 6:
                continue
            rows = [[n % prime for n in row] for row in samples.some_basis(room.size, prime, 9)]
            grown = grown_guests(room, rows[:1])
            with self.subTest(name=name):
                for guests in ([], rows[:1], rows[:2], rows, grown, grown + grown[:1], left_alone(room),
                               [(0,) * room.size], list(reversed(grown)), grown_guests(room, rows[1:2])):
                    told = is_inner_plainly(room, guests)
                    both[told] += 1
                    self.assertIs(is_inner(room, guests), told)
                    if told:
                        self.check_parts(room, guests)
                    else:
                        self.refused(BadBasis, None, inner_room, room, guests)
                        self.refused(BadBasis, None, left_over, room, guests)
        self.assertGreater(min(both.values()), 100)

    def check_parts(self, room, guests):
        """inner_room and left_over of an inner list."""
        prime = room.book.prime
        inner = self.unchanged(inner_room, room, guests)
        self.assertIs(type(inner), Room)
        self.assertEqual(inner.size, len(guests))
        for x in samples.plain(room.book.size):
            for k, guest in enumerate(guests):
                led = plainrooms.led(prime, inner.leads, x, samples.unit(len(guests), k))
                self.assertEqual(plainly.lead(prime, guests, led), plainrooms.led(prime, room.leads, x, guest))
        self.assertEqual(inner_room(room, [self.spelled(prime, row)[3] for row in guests]), inner)
        left = self.unchanged(left_over, room, guests)
        if len(guests) == room.size:
            self.assertIsNone(left)
            return
        self.assertIs(type(left), Room)
        tidy = plainly.tidy(guests, prime)
        begun = [next(k for k, n in enumerate(row) if n) for row in tidy]
        places = [k for k in range(room.size) if k not in begun]
        self.assertEqual(left.size, len(places))
        for k, place in enumerate(places):
            for x in samples.plain(room.book.size):
                led = plainrooms.led(prime, left.leads, x, samples.unit(len(places), k))
                full = [0] * room.size
                for p, n in zip(places, led):
                    full[p] = n
                less = [a - b for a, b in zip(full, plainrooms.led(prime, room.leads, x, samples.unit(room.size, place)))]
                self.assertTrue(plainly.is_sum(less, guests, prime))
        # The map to what is left goes along, and so does that from the inner guests.
        down = [plainly.solved([[row[k] for row in tidy] + [int(k == p) for p in places] + [guest[k]]
                                for k in range(room.size)], room.size, prime)[len(tidy):]
                for guest in samples.plain(room.size)]
        self.assertTrue(is_along(room, left, down))
        self.assertTrue(is_along(inner, room, guests))

    def test_inner_any_value(self):
        room = own_room(group_book(3, samples.cyclic(2)))
        for value in samples.STRANGE + self.wrong_squares(2) + [[[1, 1], None], [[1, True]], (1, 1), room]:
            if isinstance(value, (list, tuple)) and len(value) == 1 and value[0] == [1, 1]:
                continue
            self.assertIs(is_inner(room, value), False)
            self.refused(BadBasis, None, inner_room, room, value)
            self.refused(BadBasis, None, left_over, room, value)
        self.assertIs(is_inner(room, [[1, 1]]), True)
        self.assertIs(is_inner(room, ((4, -2),)), True)
        self.assertIs(is_inner(room, [[1, 0]]), False)
        self.assertIs(is_inner(room, [[1, 0], [0, 1]]), True)
        self.assertIs(is_inner(room, [[1, 0], [0, 1], [1, 1]]), False)
        self.assertIs(is_inner(room, [[1, 1], [1, 1]]), False)
        self.assertIs(is_inner(room, [[3, 3]]), False)

    def test_no_rooms(self):
        for function in (alongs, ):
            self.wants_rooms(function, 2)
        self.wants_rooms(is_along, 2, [[1]])
        for function in (grown_guests, is_inner, inner_room, left_over):
            self.wants_rooms(function, 1, [[1, 0], [0, 1]])
        self.wants_rooms(left_alone, 1)
        own = own_room(group_book(3, samples.cyclic(2)))
        self.keeps_lists(alongs, own, own)


if __name__ == "__main__":
    unittest.main()
