"""Point 75: things that turn things about."""

import unittest

from splitbooks.alongs import is_along, left_alone
from splitbooks.besides import beside_rooms, turned_room
from splitbooks.doings import back_undone, backed
from splitbooks.rooms import Room
from splitbooks.simples import middle
from splitbooks.turning import turning_back_room, turning_room
from tests import plainly, plainrooms, samples
from tests.helping import Case
from tests.roomsamples import some_books
from tests.test_forms import all_books


def turned_plainly(book, back=None):
    """The leads of turning_room, or of turning_back_room if the back undone is given."""
    prime, n = book.prime, book.size
    things = samples.plain(n)

    def put(x, y):
        return plainly.join(prime, book.joins, x, y)

    leads = []
    for square in book.splits:
        rows = []
        for y in things:
            total = [0] * n
            for a, b, number in plainrooms.pairs(square):
                row = put(put(things[a], y), book.back[b]) if back is None else put(put(things[b], y), back[a])
                total = [so_far + number * more for so_far, more in zip(total, row)]
            rows.append(tuple(number % prime for number in total))
        leads.append(tuple(rows))
    return tuple(leads)


class TurningTest(Case):

    def test_leads(self):
        for name, book in some_books().items():
            with self.subTest(name=name):
                for room, wanted in ((turning_room(book), turned_plainly(book)),
                                     (turning_back_room(book), turned_plainly(book, back_undone(book)))):
                    self.assertIs(type(room), Room)
                    self.assertEqual((room.book, room.size), (book, book.size))
                    self.assertEqual(room.leads, wanted)

    def test_larger_books(self):
        for name in ("slip 3, other basis", "shift 3 over 7", "level, other way", "six over 5"):
            book = samples.books()[name]
            self.assertEqual(turning_room(book).leads, turned_plainly(book))
            self.assertEqual(turning_back_room(book).leads, turned_plainly(book, back_undone(book)))

    def test_left_alone(self):
        for name, book in all_books().items():
            with self.subTest(name=name):
                self.assertEqual(left_alone(turning_room(book)), middle(book))
                self.assertEqual(left_alone(turning_back_room(book)), middle(book))

    def test_left_alone_of_rows(self):
        """Rows that tell the same of x joined to y and of y joined to the back of the back of x."""
        for name, book in all_books().items():
            prime, n = book.prime, book.size
            if n > 9:
                continue
            twice = [backed(book, row) for row in book.back]
            equations = []
            for x in range(n):
                for y in range(n):
                    last = plainly.join(prime, book.joins, samples.unit(n, y), twice[x])
                    equations.append([(a - b) % prime for a, b in zip(book.joins[x][y], last)])
            found = left_alone(turned_room(turning_room(book)))
            with self.subTest(name=name):
                self.is_tidy(prime, n, found)
                for row in found:
                    for told in equations:
                        self.assertEqual(plainly.count(prime, row, told), 0)
                self.assertEqual(len(found), n - plainly.rank(equations, prime))

    def test_joining_goes_along(self):
        for name, book in all_books().items():
            if book.size <= 6:
                room = turning_room(book)
                rows = [row for square in book.joins for row in square]
                with self.subTest(name=name):
                    self.assertIs(is_along(beside_rooms(room, room), room, rows), True)

    def test_no_book(self):
        for function in (turning_room, turning_back_room):
            self.wants_books(function, 1)


if __name__ == "__main__":
    unittest.main()
