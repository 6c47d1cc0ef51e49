"""What is made without being judged would be judged right, and is made of tuples of numbers below the prime."""

import unittest

from splitbooks.alongs import grown_guests, inner_room, left_alone, left_over
from splitbooks.bases import other_way
from splitbooks.besides import beside_rooms, rooms_together, turned_back_room, turned_room
from splitbooks.bothrooms import BothRoom, falls_both, free_both, room_both, rows_both
from splitbooks.crossings import crossings
from splitbooks.crossrooms import (
    CrossRoom, beside_cross, cross_of, crossing_cross, double_room, turning_back_cross, turning_cross)
from splitbooks.doingtables import ProductTable, book_table, full_table, plain_doing, turning_doing
from splitbooks.doubles import double, double_crossing
from splitbooks.falls import falls_of, leads_of
from splitbooks.makers import makers_of, making_rows, scattered
from splitbooks.rooms import Room, count_room, own_room
from splitbooks.smash import smash, twice_smashed
from splitbooks.turning import turning_back_room, turning_room
from tests import plainly, samples
from tests.helping import Case
from tests.test_doingtables import points_table
from tests.test_rooms import listed


def rooms_made(book):
    """Rooms that functions of the package make of a book."""
    own, count = own_room(book), count_room(book)
    found = [own, count, turned_room(own), turned_back_room(own), turning_room(book), turning_back_room(book),
             rooms_together(own, count), rooms_together(count, own), leads_of(other_way(book), falls_of(own)),
             leads_of(book, book.splits)]
    if book.size <= 6:
        found += [beside_rooms(own, turned_room(own)), beside_rooms(turning_room(book), own)]
    guests = grown_guests(own, samples.some_things(book, 1, 3) + left_alone(own))
    found.append(inner_room(own, guests))
    if book.size > 1:
        found.append(left_over(own, left_alone(own)))
    return found


def both_made(book):
    own = own_room(book)
    found = [free_both(book, 1), free_both(book, 36 // book.size), rows_both(book), room_both(count_room(book)),
             falls_both(book, [[book.one]])]
    if book.size <= 6:
        found += [room_both(own), room_both(turning_room(book)), falls_both(book, book.splits),
                  falls_both(book, falls_of(own_room(other_way(book))))]
    return found


def cross_made(book):
    found = [turning_cross(book), turning_back_cross(book)]
    if book.size <= 6:
        found += [beside_cross(found[0], found[1]), beside_cross(found[1], found[1])]
    if book.size <= 4:
        found.append(cross_of(book, own_room(double(book))))
        found.append(crossing_cross(own_room(double(book)), double_crossing(book)))
        if book.prime ** ((book.size - 1) ** 2) <= 20000:
            found += [crossing_cross(turning_room(book), square) for square in crossings(book)[-2:]]
    return found


class KnownTest(Case):

    def books(self):
        """All books, but in their own basis alone if they are of more than eight things."""
        return {name: book for name, book in samples.more_books().items() if book.size <= 8 or "basis" not in name}

    def test_rooms(self):
        for name, book in self.books().items():
            for room in rooms_made(book):
                with self.subTest(name=name, size=room.size):
                    self.numbers_within(book.prime, room.leads, 3)
                    self.assertEqual(Room(room.book, listed(room.leads)), room)

    def test_both_rooms(self):
        for name, book in self.books().items():
            for both in both_made(book):
                with self.subTest(name=name, size=both.size):
                    self.numbers_within(book.prime, both.leads, 3)
                    self.numbers_within(book.prime, both.falls, 3)
                    self.assertEqual(BothRoom(book, listed(both.leads), listed(both.falls)), both)

    def test_cross_rooms(self):
        for name, book in self.books().items():
            for cross in cross_made(book):
                with self.subTest(name=name, size=cross.size):
                    self.numbers_within(book.prime, cross.leads, 3)
                    self.numbers_within(book.prime, cross.falls, 3)
                    self.assertEqual(CrossRoom(cross.book, listed(cross.leads), listed(cross.falls)), cross)

    def test_rooms_of_doubles(self):
        for name, book in self.books().items():
            if book.size <= 3 or name in ("shift 2 over 3, other basis", "slip 2, other way", "four over 5"):
                for cross in cross_made(book)[:4]:
                    room = double_room(cross)
                    with self.subTest(name=name, size=room.size):
                        self.numbers_within(book.prime, room.leads, 3)
                        self.assertEqual(Room(double(book), listed(room.leads)), room)

    def test_tables(self):
        for name, book in self.books().items():
            table, points = book_table(book), points_table(book.prime, 2)
            found = [table, full_table(table, 1), full_table(points, 3), smash(book, points, plain_doing(book, points))]
            if book.size <= 6:
                found.append(smash(book, table, turning_doing(book)))
                found.append(full_table(table, 2))
            if book.size <= 3:
                found.append(twice_smashed(book, table, turning_doing(book)))
            for each in found:
                with self.subTest(name=name, size=each.size):
                    self.numbers_within(book.prime, each.joins, 3)
                    self.numbers_within(book.prime, each.one, 1)
                    self.assertEqual(ProductTable(book.prime, listed(each.joins), list(each.one)), each)


class MakersTest(Case):

    def made(self, prime, joins, rows):
        """All that rows make, joined as often as one likes."""
        found = plainly.tidy(rows, prime)
        while True:
            more = plainly.tidy(found + [plainly.join(prime, joins, x, y) for x in rows for y in found], prime)
            if len(more) == len(found):
                return found
            found = more

    def test_makers(self):
        for name, book in samples.more_books().items():
            if book.size > 6:
                continue
            places = makers_of(book.prime, book.joins)
            things = samples.plain(book.size)
            with self.subTest(name=name):
                self.assertEqual(len(self.made(book.prime, book.joins, [things[k] for k in places])), book.size)
                for at, place in enumerate(places):
                    before = self.made(book.prime, book.joins, [things[k] for k in places[:at]])
                    self.assertFalse(plainly.is_sum(things[place], before, book.prime) if before else False)

    def test_making_rows(self):
        for table in (points_table(97, 12), points_table(5, 12), points_table(2, 12), full_table(points_table(3, 1), 3),
                      book_table(samples.large_books()["ten over 2"])):
            pairs = making_rows(table.prime, table.joins)
            rows = [row for row, _ in pairs]
            self.assertEqual(len(self.made(table.prime, table.joins, rows)), table.size)
            for row, square in pairs:
                self.assertEqual(tuple(square), tuple(plainly.join(table.prime, table.joins, row, x)
                                                      for x in samples.plain(table.size)))
        self.assertLess(len(making_rows(97, points_table(97, 12).joins)), 4)
        self.assertEqual(scattered(97, 20, 1), scattered(97, 20, 1))
        self.assertNotEqual(scattered(97, 20, 1), scattered(97, 20, 2))


if __name__ == "__main__":
    unittest.main()
