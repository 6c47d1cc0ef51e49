"""The first part of point 74: falls, and rooms of the other way."""

import unittest

from splitbooks.bases import other_way
from splitbooks.errors import BadRoom, BadShape
from splitbooks.falls import falls_fault, falls_of, leads_of
from splitbooks.families import group_book
from splitbooks.rooms import Room, count_room, own_room
from tests import plainrooms, samples
from tests.helping import Case
from tests.roomsamples import in_guests, some_books, some_rooms
from tests.test_rooms import listed


def things_fall(book):
    """Falls of things: into their first halves, paired with the second ones."""
    return [[list(row) for row in square] for square in book.splits]


def falls_in_guests(book, falls, seed=2):
    """The falls with other guests in the place of their own."""
    return falls_of(in_guests(leads_of(book, falls), seed))


class FallsTest(Case):

    def test_falls_of_rooms(self):
        for name, room in some_rooms().items():
            book, other = room.book, other_way(room.book)
            with self.subTest(name=name):
                falls = falls_of(room)
                self.numbers_within(book.prime, falls, 3)
                self.assertEqual(falls, tuple(tuple(tuple(room.leads[k][i][j] for k in range(book.size))
                                                    for j in range(room.size)) for i in range(room.size)))
                self.assertIsNone(falls_fault(other, falls))
                if room.size * book.size <= 24:
                    self.assertIsNone(plainrooms.falls_wrong(other, falls))
                again = leads_of(other, falls)
                self.assertIs(type(again), Room)
                self.assertEqual(again, room)

    def test_leads_of(self):
        for name, book in some_books().items():
            falls = things_fall(book)
            with self.subTest(name=name):
                room = self.unchanged(leads_of, book, falls)
                self.assertEqual(room.book, other_way(book))
                self.assertEqual(room.size, book.size)
                for k in range(book.size):
                    for i in range(book.size):
                        self.assertEqual(room.leads[k][i], tuple(row[k] for row in book.splits[i]))
                self.assertEqual(falls_of(room), book.splits)
                spelled = tuple([self.spelled(book.prime, row)[(i + j) % 4] for j, row in enumerate(square)]
                                for i, square in enumerate(falls))
                self.assertIsNone(falls_fault(book, spelled))
                self.assertEqual(leads_of(book, spelled), room)
        book = samples.books()["shift 2 over 5"]
        self.assertEqual(leads_of(book, [[list(book.one)]]), count_room(other_way(book)))

    def test_each_place_changed(self):
        told = {}
        for name, book in some_books().items():
            if book.size > 4 or book.prime > 7:
                continue
            for falls in (things_fall(book), listed(falls_in_guests(book, things_fall(book))), [[list(book.one)]]):
                for i in range(len(falls)):
                    for j in range(len(falls)):
                        for k in range(book.size):
                            changed = listed(falls)
                            changed[i][j][k] += 1
                            wanted = plainrooms.falls_wrong(book, changed)
                            with self.subTest(name=name, place=(i, j, k)):
                                self.assertEqual(falls_fault(book, changed), wanted)
                                if wanted is not None:
                                    told[wanted[0]] = told.get(wanted[0], 0) + 1
                                    self.refused(BadRoom, wanted, leads_of, book, changed)
        self.assertEqual(sorted(told), ["counts", "falls"])
        self.assertGreater(min(told.values()), 20)

    def test_late_faults(self):
        for name in ("six over 5", "shift 3 over 7, other way", "level, other basis"):
            book = samples.books()[name]
            for i in range(book.size):
                falls = things_fall(book)
                falls[i][i][0] += 1
                falls[i][i] = [a + b for a, b in zip(falls[i][i], self.uncounted(book))]
                wanted = plainrooms.falls_wrong(book, falls)
                with self.subTest(name=name, i=i):
                    self.assertEqual(falls_fault(book, falls), wanted)

    def uncounted(self, book):
        """A thing whose count is minus that of thing 0."""
        place = max(k for k, c in enumerate(book.counts) if c)
        undone = pow(book.counts[place], -1, book.prime)
        return [-book.counts[0] * undone if k == place else 0 for k in range(book.size)]

    def test_which_half_is_the_later_one(self):
        """In a book whose halves are not alike the fall into second halves, paired with first ones, is wrong."""
        book = samples.books()["shift 2 over 5"]
        turned = [[list(column) for column in zip(*square)] for square in book.splits]
        self.assertIsNone(falls_fault(book, things_fall(book)))
        wanted = plainrooms.falls_wrong(book, turned)
        self.assertEqual(wanted[0], "falls")
        self.assertEqual(falls_fault(book, turned), wanted)

    def test_shapes(self):
        book = group_book(3, samples.cyclic(2))
        wrong = samples.STRANGE + [[[1, 0]], [[[1]]], [[[1, 0, 0]]], [[[1, 0], [1, 0]]], [[[1, 0]], [[1, 0]]],
                                   [[[1, True]]], [[[1.0, 0]]], [[["a", 0]]], [None], [[None]], [["ab"]], (), [[[1, 0], None]],
                                   [[[1, 0], [0, 0]], [[0, 0]]], {0: [[1, 0]]}]
        for value in wrong + [[[[0, 0]] * 37] * 37]:
            self.refused(BadShape, "falls", falls_fault, book, value)
            self.refused(BadShape, "falls", leads_of, book, value)
        wide = [[[1 if i == j else 0, 0] for j in range(36)] for i in range(36)]
        self.assertIsNone(falls_fault(book, wide))
        self.assertEqual(leads_of(book, wide).size, 36)
        wide[35][35] = [0, 2]
        self.assertEqual(falls_fault(book, wide), ("counts", 35))
        wide[35][35] = [2, 2]
        self.assertEqual(falls_fault(book, wide), ("falls", 35))

    def test_no_book(self):
        self.wants_books(falls_fault, 1, [[[1]]])
        self.wants_books(leads_of, 1, [[[1]]])
        self.wants_rooms(falls_of, 1)
        self.refused(BadRoom, None, falls_of, group_book(2, [[0]]))
        self.assertEqual(falls_of(own_room(group_book(2, [[0]]))), (((1,),),))


if __name__ == "__main__":
    unittest.main()
