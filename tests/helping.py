"""What the tests share."""

import copy
import unittest

from splitbooks import errors
from tests.samples import STRANGE


class Case(unittest.TestCase):

    def refused(self, error, part, function, *args, **named):
        """function raises just this error; its attribute, if it has one, is part, also by its kinds."""
        with self.assertRaises(errors.SplitError) as held:
            function(*args, **named)
        self.assertIs(type(held.exception), error)
        attributes = {"TooMany": "most", "BadText": "at", "NoMark": "name", "NoWatch": "name"}
        name = attributes.get(error.__name__, "part")
        if hasattr(held.exception, name):
            told = getattr(held.exception, name)
            self.assertEqual((told, type(told)), (part, type(part)))
        else:
            self.assertIsNone(part)

    def wants_books(self, function, many, *others):
        """BadBook(None) for each of the first many parameters, ahead of all that is wrong with the others."""
        from splitbooks.families import group_book
        book = group_book(3, [[0, 1], [1, 0]])
        more = group_book(5, [[0]])
        for strange in STRANGE + [[book], (book,), {book.prime: book}, 3]:
            for place in range(many):
                args = [book if at % 2 == 0 else more for at in range(many)]
                args[place] = strange
                self.refused(errors.BadBook, None, function, *args, *others)
        for strange in STRANGE:
            self.refused(errors.BadBook, None, function, *[strange] * many, *[strange] * len(others))

    def wants_rooms(self, function, many, *others):
        """BadRoom(None) for each of the first many parameters, then BadShape("book"), ahead of all that is wrong else."""
        from splitbooks.families import group_book
        from splitbooks.rooms import own_room
        book = group_book(3, [[0, 1], [1, 0]])
        rooms = [own_room(book), own_room(group_book(5, [[0]]))]
        for strange in STRANGE + [[rooms[0]], (rooms[0],), book, rooms[0].leads, 3]:
            for place in range(many):
                args = [rooms[at % 2] for at in range(many)]
                args[place] = strange
                self.refused(errors.BadRoom, None, function, *args, *others)
            self.refused(errors.BadRoom, None, function, *[strange] * many, *[None] * len(others))
        if many == 2:
            self.refused(errors.BadShape, "book", function, *rooms, *others)
            self.refused(errors.BadShape, "book", function, *rooms[::-1], *[None] * len(others))

    def refuses_doings(self, function, *others):
        """function refuses what is no Splitbook, no ProductTable, of other primes or no doing, in this sequence."""
        from splitbooks.doingtables import ProductTable
        from splitbooks.families import group_book
        book = group_book(3, [[0, 1], [1, 0]])
        tables = {prime: ProductTable(prime, [[[1, 0], [0, 0]], [[0, 0], [0, 1]]], [1, 1]) for prime in (3, 5)}
        nothing = [None] * len(others)
        for value in STRANGE + [tables[3], [book]]:
            self.refused(errors.BadBook, None, function, value, None, None, *nothing)
            self.refused(errors.BadBook, None, function, value, tables[3], [[[1, 0], [0, 1]]] * 2, *others)
        for value in STRANGE + [book, [tables[3]], tables[3].joins]:
            self.refused(errors.BadTable, None, function, book, value, None, *nothing)
            self.refused(errors.BadTable, None, function, book, value, [[[1, 0], [0, 1]]] * 2, *others)
        self.refused(errors.BadShape, "prime", function, book, tables[5], None, *nothing)
        self.refused(errors.BadShape, "prime", function, book, tables[5], [[[1, 0], [0, 1]]] * 2, *others)
        for value in STRANGE + [[], [[[1, 0], [0, 1]]], [[[1, 0], [0, 1]]] * 3, [[[1]]] * 2]:
            self.refused(errors.BadDoing, ("shape",), function, book, tables[3], value, *nothing)
        wrong = {("one", 0): [[[0, 1], [1, 0]], [[0, 1], [1, 0]]], ("joins", 1, 1, 0): [[[1, 0], [0, 1]], [[1, 1], [0, 1]]],
                 ("counts", 1): [[[1, 0], [0, 1]], [[0, 2], [2, 0]]], ("both", 1, 0, 0): [[[1, 0], [0, 1]], [[2, 0], [2, 1]]]}
        for part, doing in wrong.items():
            self.refused(errors.BadDoing, part, function, book, tables[3], doing, *nothing)
            self.refused(errors.BadDoing, part, function, book, tables[3], doing, *others)

    def unchanged(self, function, *args):
        """What function returns; the lists among args are the same afterwards."""
        before = copy.deepcopy(args)
        found = function(*args)
        self.assertEqual(args, before)
        return found

    def numbers_within(self, prime, value, depth):
        """value is a tuple, depth deep, of numbers from 0 to prime - 1."""
        if depth == 0:
            self.assertIs(type(value), int)
            self.assertTrue(0 <= value < prime)
            return
        self.assertIs(type(value), tuple)
        for part in value:
            self.numbers_within(prime, part, depth - 1)

    def is_tidy(self, prime, size, rows):
        """rows is a tidy list: a list of tuples."""
        from tests import plainly
        self.assertIs(type(rows), list)
        for row in rows:
            self.numbers_within(prime, row, 1)
            self.assertEqual(len(row), size)
        self.assertEqual(rows, plainly.tidy(rows, prime))

    def wrong_rows(self, size):
        """Values that are no rows of this size."""
        return STRANGE + [[], (), [1] * (size - 1), [1] * (size + 1), [[1] * size], [1] * (size - 1) + [True],
                          [1] * (size - 1) + [1.0], "1" * size, {k: 1 for k in range(size)}, range(size)]

    def wrong_squares(self, size):
        """Values that are no squares of this size."""
        row = [1] * size
        return STRANGE + [[], row, [row] * (size - 1), [row] * (size + 1), [[1] * (size + 1)] * size,
                          [row] * (size - 1) + [[1] * (size - 1)], [row] * (size - 1) + [[True] * size],
                          [row] * (size - 1) + [None], [[row] * size], [row] * (size - 1) + ["1" * size]]

    def refuses_rows(self, error, function, book, *others):
        """function refuses what is no row of the book, ahead of others; and what is no Splitbook ahead of that."""
        for value in self.wrong_rows(book.size):
            self.refused(error, None, function, book, value, *others)
        self.wants_books(function, 1, [1], *others)

    def keeps_lists(self, function, *args):
        """A list that function returns is a new one each time: it may be changed."""
        found = function(*args)
        self.assertIs(type(found), list)
        kept = list(found)
        found.append("more")
        again = function(*args)
        self.assertEqual(again, kept)
        again.clear()
        self.assertEqual(function(*args), kept)

    def spelled(self, prime, row):
        """The row in other spellings: a list, numbers below 0, numbers beyond the prime."""
        return [list(row), [number - prime for number in row], tuple(number + 2 * prime for number in row),
                [number + prime * (3 - at) for at, number in enumerate(row)]]
