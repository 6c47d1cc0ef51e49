"""Point 70: rooms, and the first place where leads are none."""

import unittest

from splitbooks.doings import joined
from splitbooks.errors import BadBook, BadRoom, BadRow, BadShape
from splitbooks.families import group_book
from splitbooks.rooms import Room, count_room, led_guest, own_room, room_fault
from tests import plainrooms, samples
from tests.helping import Case
from tests.roomsamples import in_guests, some_books, some_rooms


def listed(leads):
    return [[list(row) for row in square] for square in leads]


class RoomsTest(Case):

    def test_all_are_rooms(self):
        self.assertGreater(len(some_rooms()), 150)
        for name, room in some_rooms().items():
            with self.subTest(name=name):
                self.assertIsNone(plainrooms.room_wrong(room.book, room.leads))
                self.assertIsNone(room_fault(room.book, room.leads))
                self.assertEqual(room.size, len(room.leads[0]))
                self.numbers_within(room.book.prime, room.leads, 3)
                self.assertEqual(sorted(vars(room)), ["book", "leads", "size"])

    def test_own_and_count(self):
        for name, book in {**samples.more_books(), **samples.large_books()}.items():
            with self.subTest(name=name):
                own = own_room(book)
                self.assertIs(type(own), Room)
                self.assertEqual((own.size, own.leads, own.book), (book.size, book.joins, book))
                self.assertEqual(count_room(book).leads, tuple(((count,),) for count in book.counts))
                self.assertEqual(count_room(book).size, 1)
                if book.size <= 6:
                    for x, y in zip(samples.some_things(book, 3), samples.some_things(book, 3, 2)):
                        self.assertEqual(led_guest(own, x, y), joined(book, x, y))

    def test_each_place_changed(self):
        told = {}
        for name, book in some_books().items():
            if book.size > 4 or book.prime > 7:
                continue
            for room in (own_room(book), count_room(book), in_guests(own_room(book))):
                for x in range(book.size):
                    for i in range(room.size):
                        for j in range(room.size):
                            leads = listed(room.leads)
                            leads[x][i][j] += 1
                            wanted = plainrooms.room_wrong(book, leads)
                            with self.subTest(name=name, place=(x, i, j)):
                                self.assertEqual(room_fault(book, leads), wanted)
                                if wanted is None:
                                    self.assertEqual(Room(book, leads).leads[x][i][j], leads[x][i][j] % book.prime)
                                else:
                                    told[wanted[0]] = told.get(wanted[0], 0) + 1
                                    self.refused(BadRoom, wanted, Room, book, leads)
        self.assertEqual(sorted(told), ["leads", "one"])
        self.assertGreater(min(told.values()), 20)

    def test_late_faults(self):
        """Faults that only the last things have."""
        seen = {}
        for name in ("six over 5", "shift 3 over 7, other basis", "slip 3", "level"):
            book = samples.books()[name]
            room = own_room(book)
            for x in range(book.size):
                leads = listed(room.leads)
                leads[x][x][book.size - 1] += 1
                leads[x][0][x] -= 2
                wanted = plainrooms.room_wrong(book, leads)
                with self.subTest(name=name, x=x):
                    self.assertEqual(room_fault(book, leads), wanted)
                    seen[wanted] = True
        self.assertGreater(len(seen), 6)

    def test_one_multiplied_wrong(self):
        for book in (group_book(3, samples.cyclic(2)), samples.books()["shift 2 over 5"]):
            self.assertEqual(room_fault(book, [[[0]] for _ in range(book.size)]), ("one", 0))
            leads = listed(own_room(book).leads)
            for square in leads:
                for row in square:
                    row.append(0)
                square.append([0] * (book.size + 1))
            self.assertEqual(room_fault(book, leads), ("one", book.size))

    def test_numbers_of_any_size(self):
        for name, room in some_rooms().items():
            if room.size <= 4:
                prime = room.book.prime
                leads = tuple([self.spelled(prime, row)[(x + i) % 4] for i, row in enumerate(square)]
                              for x, square in enumerate(room.leads))
                self.assertIsNone(self.unchanged(room_fault, room.book, leads))
                again = self.unchanged(Room, room.book, leads)
                self.assertEqual(again, room)
                self.assertEqual(again.leads, room.leads)

    def test_equal(self):
        book = group_book(3, samples.cyclic(2))
        room = own_room(book)
        self.assertEqual(room, own_room(group_book(3, samples.cyclic(2))))
        self.assertFalse(room != own_room(book))
        self.assertNotEqual(room, own_room(group_book(5, samples.cyclic(2))))
        self.assertNotEqual(room, count_room(book))
        for value in samples.STRANGE:
            if not isinstance(value, samples.Odd):
                self.assertFalse(room == value)
        self.assertFalse(room == room.leads)
        self.assertFalse(room == book)

    def test_led_guest(self):
        for name, room in some_rooms().items():
            if room.size * room.book.size > 30:
                continue
            prime = room.book.prime
            with self.subTest(name=name):
                for x in samples.some_things(room.book, 2, 7):
                    guest = samples.some_basis(room.size, prime, 8)[0]
                    wanted = plainrooms.led(prime, room.leads, x, guest)
                    self.assertEqual(self.unchanged(led_guest, room, list(x), guest), wanted)
                    self.assertEqual(led_guest(room, self.spelled(prime, x)[3], self.spelled(prime, guest)[1]), wanted)
                    self.numbers_within(prime, wanted, 1)
                self.assertEqual(led_guest(room, room.book.one, guest), tuple(number % prime for number in guest))

    def test_led_guest_refused(self):
        book = group_book(3, samples.cyclic(2))
        room = Room(book, [[[1, 0, 0], [0, 1, 0], [0, 0, 1]]] * 2)
        for value in self.wrong_rows(2):
            self.refused(BadRow, None, led_guest, room, value, (1, 0, 0))
            self.refused(BadRow, None, led_guest, room, value, None)
        for value in self.wrong_rows(3):
            self.refused(BadRow, None, led_guest, room, (1, 0), value)
        for value in samples.STRANGE + [book, [room], room.leads]:
            self.refused(BadRoom, None, led_guest, value, None, None)

    def test_shapes(self):
        book = group_book(3, samples.cyclic(2))
        square = [[1, 0], [0, 1]]
        wrong = samples.STRANGE + [[], [square], [square] * 3, [[], []], ((), ()), [[[]], [[]]], square,
                                   [square, [[1]]], [[[1]], square], [square, [[1, 0]]], [square, [[1, 0], [0, True]]],
                                   [[[1.0]], [[1]]], [square, None], [None, square], [square, "ab"], ["ab", square],
                                   [square, [[1, 0], "ab"]], {0: square, 1: square}]
        big = [[1 if i == j else 0 for j in range(37)] for i in range(37)]
        for leads in wrong + [[big, big]]:
            self.refused(BadShape, "leads", room_fault, book, leads)
            self.refused(BadShape, "leads", Room, book, leads)
        big = [row[:36] for row in big[:36]]
        self.assertIsNone(room_fault(book, [big, big]))
        self.assertEqual(Room(book, [big, big]).size, 36)
        turned = [row[::-1] for row in big]
        self.assertIsNone(room_fault(book, [big, turned]))
        turned[35] = turned[35][:35] + [1]
        self.assertEqual(room_fault(book, [big, turned]), plainrooms.room_wrong(book, [big, turned]))

    def test_no_book(self):
        for function in (room_fault, Room):
            self.wants_books(function, 1, [[[1]]])
        for function in (own_room, count_room):
            self.wants_books(function, 1)
        self.refused(BadBook, None, room_fault, own_room(group_book(2, [[0]])), [[[1]]])

    def test_by_hand(self):
        book = group_book(3, samples.cyclic(2))
        plain = [[1, 0], [0, 1]]
        self.assertEqual(Room(book, [plain, [[1, 1], [0, 2]]]).size, 2)
        self.assertEqual(room_fault(book, [plain, [[1, 1], [0, 1]]]), ("leads", 1, 1, 0))
        self.refused(BadRoom, ("leads", 1, 1, 0), Room, book, [plain, [[1, 1], [0, 1]]])


if __name__ == "__main__":
    unittest.main()
