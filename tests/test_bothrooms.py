"""Point 74: rooms whose guests fall, and what they keep."""

import functools
import unittest

from splitbooks.alongs import alongs, left_alone
from splitbooks.bases import other_way
from splitbooks.besides import beside_rooms, rooms_together, turned_room
from splitbooks.bothrooms import BothRoom, falls_both, free_both, kept_guests, room_both, rows_both, told_by_kept
from splitbooks.doings import back_undone
from splitbooks.errors import BadNumber, BadRoom, BadRow, BadShape, TooMany
from splitbooks.falls import falls_of, leads_of
from splitbooks.families import group_book
from splitbooks.rooms import Room, count_room, own_room
from splitbooks.swallowed import swallowed_left
from tests import dense, plainly, plainrooms, samples
from tests.helping import Case
from tests.roomsamples import few_rooms, maps_put, some_books
from tests.test_falls import things_fall
from tests.test_rooms import listed


def both_in_guests(both, seed=5):
    """The room with other guests in the place of its own."""
    book, prime = both.book, both.book.prime
    rows = samples.some_basis(both.size, prime, seed)
    undone = dense.undone(rows, prime)
    leads = [maps_put(prime, rows, square, undone) for square in both.leads]
    squares = [[[row[k] for row in table] for table in both.falls] for k in range(book.size)]
    turned = [maps_put(prime, rows, square, undone) for square in squares]
    falls = [[[square[i][j] for square in turned] for j in range(both.size)] for i in range(both.size)]
    return BothRoom(book, leads, falls)


@functools.lru_cache(None)
def both_rooms():
    """BothRooms of all kinds, by name."""
    found = {}
    for name, book in some_books().items():
        if book.size > 6:
            continue
        found[name + ": free"] = free_both(book, 1)
        found[name + ": rows"] = rows_both(book)
        if book.size <= 4:
            found[name + ": free 2"] = free_both(book, 2)
            found[name + ": free 2, basis"] = both_in_guests(free_both(book, 2))
            found[name + ": rows, basis"] = both_in_guests(rows_both(book))
        if book.size <= 3:
            found[name + ": own beside"] = room_both(own_room(book))
            found[name + ": falls"] = falls_both(book, things_fall(book))
            found[name + ": falls, basis"] = both_in_guests(falls_both(book, things_fall(book)))
        found[name + ": count beside"] = room_both(rooms_together(count_room(book), count_room(book)))
        found[name + ": one falls"] = falls_both(book, [[list(book.one)]])
    return found


def kept_by(leads, places, prime):
    """A map with an inverse, put together with the squares at these places in either sequence alike, and its inverse."""
    import random
    chance = random.Random(11)
    size = len(leads[0])
    rows = []
    for p in range(size):
        for q in range(size):
            row = []
            for square in (leads[x] for x in places):
                row += [(square[i][p] * (q == j) - square[q][j] * (p == i)) % prime
                        for i in range(size) for j in range(size)]
            rows.append(row)
    told = plainly.tidy([row + list(samples.unit(size * size, at)) for at, row in enumerate(rows)], prime)
    maps = [row[-size * size:] for row in told if not any(row[:-size * size])]
    while True:
        numbers = [chance.randrange(prime) for _ in maps]
        total = [sum(number * m[k] for number, m in zip(numbers, maps)) % prime for k in range(size * size)]
        square = [total[k:k + size] for k in range(0, size * size, size)]
        if plainly.rank(square, prime) == size:
            return square, dense.undone(square, prime)


def not_together(book):
    """Pairs of leads and of falls, each right by itself, most of them not together."""
    prime, n = book.prime, book.size
    leads = [own_room(book).leads, rows_both(book).leads, turned_room(own_room(book)).leads,
             [[[int(i == j) * c for j in range(n)] for i in range(n)] for c in book.counts]]
    falls = [book.splits, rows_both(book).falls, falls_of(own_room(other_way(book))),
             [[book.one if i == j else (0,) * n for j in range(n)] for i in range(n)]]
    found = [(one, other) for one in leads for other in falls]
    # What some of the things do stays as it is, what others do does not.
    for places in [(k,) for k in range(n)] + [(k, k + 1) for k in range(n - 1)]:
        square, undone = kept_by(leads[0], places, prime)
        found.append(([maps_put(prime, square, each, undone) for each in leads[0]], falls[0]))
    # The first guests are right, the last ones are not.
    nothing = [0] * n
    wide = [[list(row) + nothing for row in one] + [nothing + list(row) for row in other]
            for one, other in zip(leads[0], leads[3])]
    table = [list(square) + [nothing] * n for square in falls[0]] + [[nothing] * n + list(rows) for rows in falls[3]]
    return found + [(wide, table)]


class BothRoomsTest(Case):

    def test_all_are_both(self):
        self.assertGreater(len(both_rooms()), 100)
        for name, both in both_rooms().items():
            with self.subTest(name=name):
                self.assertIs(type(both), BothRoom)
                self.assertEqual(sorted(vars(both)), ["book", "falls", "leads", "size"])
                self.numbers_within(both.book.prime, both.leads, 3)
                self.numbers_within(both.book.prime, both.falls, 3)
                self.assertEqual((len(both.falls), len(both.leads[0])), (both.size, both.size))
                if both.size <= 4:
                    self.assertIsNone(plainrooms.room_wrong(both.book, both.leads))
                    self.assertIsNone(plainrooms.falls_wrong(both.book, both.falls))
                    self.assertIsNone(plainrooms.both_wrong(both.book, both.leads, both.falls))
                self.assertEqual(BothRoom(both.book, listed(both.leads), listed(both.falls)), both)

    def test_leads_and_falls(self):
        """What things lead to, and what falls, as told for each."""
        for name, book in some_books().items():
            if book.size > 4:
                continue
            prime, n = book.prime, book.size
            things = samples.plain(n)

            def put(x, y):
                return plainly.join(prime, book.joins, x, y)

            with self.subTest(name=name):
                for many in (1, 3):
                    both = free_both(book, many)
                    for x in range(n):
                        for k in range(n):
                            for lot in range(many):
                                row = both.leads[x][k * many + lot]
                                self.assertEqual(row, tuple(put(things[x], things[k])[s] if at == lot else 0
                                                            for s in range(n) for at in range(many)))
                                table = both.falls[k * many + lot]
                                for s in range(n):
                                    for at in range(many):
                                        wanted = book.splits[k][s] if at == lot else (0,) * n
                                        self.assertEqual(table[s * many + at], wanted)
                undone = back_undone(book)
                both = rows_both(book)
                for x in range(n):
                    for i in range(n):
                        self.assertEqual(both.leads[x][i], tuple(put(undone[x], y)[i] for y in things))
                for i in range(n):
                    for j in range(n):
                        self.assertEqual(both.falls[i][j], tuple(book.splits[j][k][i] for k in range(n)))

    def test_room_both(self):
        for name, room in few_rooms(4).items():
            book = room.book
            if room.size * book.size > 12:
                continue
            both = room_both(room)
            self.assertEqual(both.leads, beside_rooms(room, own_room(book)).leads)
            for v in range(room.size):
                for y in range(book.size):
                    for w in range(room.size):
                        for a in range(book.size):
                            wanted = book.splits[y][a] if v == w else (0,) * book.size
                            self.assertEqual(both.falls[v * book.size + y][w * book.size + a], wanted)

    def test_falls_both(self):
        for name, room in few_rooms(3).items():
            book = other_way(room.book)
            prime, n, m = book.prime, book.size, room.size
            if n * m > 9:
                continue
            falls = falls_of(room)
            both = self.unchanged(falls_both, book, listed(falls))
            with self.subTest(name=name):
                for x in range(n):
                    for k in range(n):
                        for i in range(m):
                            self.assertEqual(both.leads[x][k * m + i], tuple(book.joins[x][k][s] if i == j else 0
                                                                             for s in range(n) for j in range(m)))
                for k in range(n):
                    for i in range(m):
                        total = [[0] * n for _ in range(n * m)]
                        for a, b, number in plainrooms.pairs(book.splits[k]):
                            for j, t, more in plainrooms.pairs(falls[i]):
                                plainrooms.add_pair(total, prime, number * more, samples.unit(n * m, a * m + j),
                                                    book.joins[b][t])
                        self.assertEqual(both.falls[k * m + i], tuple(tuple(row) for row in total))

    def test_kept(self):
        for name, both in both_rooms().items():
            book, prime = both.book, both.book.prime
            with self.subTest(name=name):
                kept = kept_guests(both)
                self.is_tidy(prime, both.size, kept)
                self.assertEqual(both.size, book.size * len(kept))
                for guest in kept:
                    self.assertEqual(plainrooms.fall(prime, both.falls, guest), plainly.pair(prime, guest, book.one))
                if prime ** both.size <= 100:
                    for guest in samples.all_rows(prime, both.size):
                        told = plainrooms.fall(prime, both.falls, guest) == plainly.pair(prime, guest, book.one)
                        self.assertIs(plainly.is_sum(guest, kept, prime), told)
                self.keeps_lists(kept_guests, both)
                for guest in samples.some_basis(both.size, prime)[:2] + [[0] * both.size]:
                    numbers = self.unchanged(told_by_kept, both, guest)
                    self.numbers_within(prime, numbers, 2)
                    self.assertEqual((len(numbers), len(numbers[0])), (book.size, len(kept)))
                    total = [0] * both.size
                    for row, square in zip(numbers, both.leads):
                        for number, more in zip(row, kept):
                            led = plainly.lead(prime, square, more)
                            total = [a + number * b for a, b in zip(total, led)]
                    self.assertEqual([n % prime for n in total], [n % prime for n in guest])
                    self.assertEqual(told_by_kept(both, self.spelled(prime, guest)[3]), numbers)
                rows = [plainly.lead(prime, square, guest) for square in both.leads for guest in kept]
                self.assertEqual(plainly.rank(rows, prime), both.size)

    def test_kept_of_known(self):
        for name, book in some_books().items():
            if book.size > 6:
                continue
            with self.subTest(name=name):
                many = 2
                wanted = [tuple(book.one[k] if at == lot else 0 for k in range(book.size) for at in range(many))
                          for lot in range(many)]
                self.assertEqual(kept_guests(free_both(book, many)), plainly.tidy(wanted, book.prime))
                self.assertEqual(kept_guests(rows_both(book)), [swallowed_left(other_way(book))])
                room = rooms_together(count_room(book), count_room(book))
                wanted = [tuple(guest[i] * n for i in range(2) for n in book.one) for guest in ((1, 0), (0, 1))]
                self.assertEqual(kept_guests(room_both(room)), plainly.tidy(wanted, book.prime))

    def test_beside_own_rooms(self):
        """A room beside the own room is alike to so many own rooms, on either side."""
        for name, room in few_rooms(3).items():
            if room.size * room.book.size > 6:
                continue
            own = own_room(room.book)
            many = own
            for _ in range(room.size - 1):
                many = rooms_together(many, own)
            for wide in (beside_rooms(room, own), beside_rooms(own, room)):
                with self.subTest(name=name):
                    self.assertEqual(len(left_alone(wide)), room.size)
                    self.assertTrue(some_map_is_undone(alongs(many, wide), room.book.prime))

    def test_each_place_changed(self):
        told = {}
        for name, both in both_rooms().items():
            book = both.book
            if both.size > 4 or book.prime > 5 or book.size == 1:
                continue
            for change in range(both.size ** 2 * book.size):
                i, j, k = change // both.size // book.size, change // book.size % both.size, change % book.size
                leads, falls = listed(both.leads), listed(both.falls)
                falls[i][j][k] += 1
                wanted = plainrooms.falls_wrong(book, falls) or plainrooms.both_wrong(book, leads, falls)
                with self.subTest(name=name, place=(i, j, k)):
                    if wanted is None:
                        BothRoom(book, leads, falls)
                    else:
                        told[wanted[0]] = told.get(wanted[0], 0) + 1
                        self.refused(BadRoom, wanted, BothRoom, book, leads, falls)
                    wanted = wanted or ("leads",)
                    leads[k][i][j] -= 1
                    wanted = plainrooms.room_wrong(book, leads) or plainrooms.falls_wrong(
                        book, falls) or plainrooms.both_wrong(book, leads, falls)
                    if wanted is not None:
                        told[wanted[0]] = told.get(wanted[0], 0) + 1
                        self.refused(BadRoom, wanted, BothRoom, book, leads, falls)
        self.assertEqual(sorted(told), ["both", "counts", "falls", "leads", "one"])

    def test_both_faults(self):
        """Leads and falls that are right by themselves, but not together."""
        told = {}
        names = ["two and two over 3", "slip 2", "two and two over 3, other way", "slanted 2"]
        for name, book in {**some_books(), **{name: samples.books()[name] for name in names}}.items():
            if book.size > 4 or book.size == 1:
                continue
            for leads, falls in not_together(book):
                wanted = plainrooms.both_wrong(book, leads, falls)
                with self.subTest(name=name):
                    if wanted is None:
                        self.assertEqual(BothRoom(book, leads, falls).size, len(falls))
                    else:
                        told[wanted] = True
                        self.refused(BadRoom, wanted, BothRoom, book, leads, falls)
        self.assertGreater(len(told), 8)
        self.assertGreater(max(told)[1], 1)
        self.assertGreater(max(i for _, _, i in told), 3)

    def test_shapes(self):
        book = group_book(3, samples.cyclic(2))
        good = free_both(book, 1)
        for value in samples.STRANGE + [[], [[[1]]], [[[1]], [[1, 0]]]]:
            self.refused(BadShape, "leads", BothRoom, book, value, None)
            self.refused(BadShape, "falls", BothRoom, book, good.leads, value)
        self.refused(BadShape, "falls", BothRoom, book, [[[1]], [[1]]], good.falls)
        self.refused(BadShape, "falls", BothRoom, book, good.leads, [[[1, 0]]])
        self.refused(BadShape, "falls", BothRoom, book, [[[0]], [[1]]], None)
        # Leads are looked at whole ahead of falls.
        self.refused(BadRoom, ("one", 0), BothRoom, book, [[[0]], [[1]]], [[[0, 0]]])
        self.refused(BadRoom, ("leads", 1, 1, 0), BothRoom, book, [[[1]], [[0]]], [[[0, 0]]])
        self.refused(BadRoom, ("counts", 0), BothRoom, book, [[[1]], [[1]]], [[[0, 0]]])
        self.refused(BadRoom, ("falls", 0), BothRoom, book, [[[1]], [[1]]], [[[2, 2]]])
        self.refused(BadRoom, ("both", 1, 0), BothRoom, book, [[[1]], [[1]]], [[[1, 0]]])

    def test_equal(self):
        book = group_book(3, samples.cyclic(2))
        both = free_both(book, 2)
        self.assertEqual(both, free_both(group_book(3, samples.cyclic(2)), 2))
        self.assertNotEqual(both, free_both(book, 1))
        self.assertNotEqual(both, free_both(group_book(5, samples.cyclic(2)), 2))
        # The same leads with other falls.
        leads = own_room(book).leads
        falls = [[list(row) for row in square] for square in book.splits]
        turned = [falls[1][::-1], falls[0][::-1]]
        self.assertNotEqual(BothRoom(book, leads, falls), Room(book, leads))
        for value in (Room(book, both.leads), both.leads, None, 1, book):
            self.assertFalse(both == value)
        self.assertEqual(plainrooms.falls_wrong(book, turned), ("counts", 0) if falls == turned else
                         plainrooms.falls_wrong(book, turned))

    def test_limits(self):
        for size in (1, 2, 3, 4, 5, 6, 7, 12, 16):
            book = group_book(5, samples.cyclic(size))
            most = 36 // size
            self.assertEqual(free_both(book, most).size, most * size)
            self.refused(TooMany, 36, free_both, book, most + 1)
            for many in samples.STRANGE + [0, -1, [1], "1", 2.0]:
                if type(many) is not int:
                    self.refused(BadNumber, "many", free_both, book, many)
            self.refused(BadNumber, "many", free_both, book, 0)
            self.refused(BadNumber, "many", free_both, book, -1)
        book = group_book(3, samples.cyclic(6))
        own = own_room(book)
        self.assertEqual(room_both(own).size, 36)
        self.refused(TooMany, 36, room_both, rooms_together(own, count_room(book)))
        falls = things_fall(book)
        self.assertEqual(falls_both(book, falls).size, 36)
        more = falls_of(rooms_together(leads_of(book, falls), count_room(other_way(book))))
        self.refused(TooMany, 36, falls_both, book, more)
        more = listed(more)
        more[6][6][0] += 1
        self.refused(BadRoom, ("counts", 6), falls_both, book, more)
        self.refused(BadShape, "falls", falls_both, book, more[:6])

    def test_refused(self):
        self.wants_books(BothRoom, 1, [[[1]]], [[[1]]])
        self.wants_books(free_both, 1, 1)
        self.wants_books(falls_both, 1, [[[1]]])
        self.wants_books(rows_both, 1)
        self.wants_rooms(room_both, 1)
        book = group_book(3, samples.cyclic(2))
        both = free_both(book, 1)
        for value in samples.STRANGE + [own_room(book), book, [both], both.leads]:
            self.refused(BadRoom, None, kept_guests, value)
            self.refused(BadRoom, None, told_by_kept, value, None)
        self.refused(BadRoom, None, room_both, both)
        for value in self.wrong_rows(2):
            self.refused(BadRow, None, told_by_kept, both, value)


def some_map_is_undone(maps, prime):
    """Whether some sum of multiples of a few maps is undone by a map."""
    import random
    chance = random.Random(7)
    size = len(maps[0])
    for _ in range(3000):
        numbers = [chance.randrange(prime) for _ in maps]
        total = [[sum(number * m[i][j] for number, m in zip(numbers, maps)) for j in range(size)] for i in range(size)]
        if plainly.rank(total, prime) == size:
            return True
    return False


if __name__ == "__main__":
    unittest.main()
