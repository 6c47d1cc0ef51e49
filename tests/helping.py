"""What the tests share."""

import copy
import unittest

from splitbooks import errors
from tests.samples import STRANGE


class Case(unittest.TestCase):

    def refused(self, error, part, function, *args, **named):
        """function raises just this error; its attribute, if it has one, is part, also by its kinds."""
        with self.assertRaises(errors.SplitError) as held:
            function(*args, **named)
        self.assertIs(type(held.exception), error)
        attributes = {"TooMany": "most", "BadText": "at", "NoMark": "name", "NoWatch": "name"}
        name = attributes.get(error.__name__, "part")
        if hasattr(held.exception, name):
            told = getattr(held.exception, name)
            self.assertEqual((told, type(told)), (part, type(part)))
        else:
            self.assertIsNone(part)

    def wants_books(self, function, many, *others):
        """BadBook(None) for each of the first many parameters, ahead of all that is wrong with the others."""
        from splitbooks.families import group_book
        book = group_book(3, [[0, 1], [1, 0]])
        more = group_book(5, [[0]])
        for strange in STRANGE + [[book], (book,), {book.prime: book}, 3]:
            for place in range(many):
                args = [book if at % 2 == 0 else more for at in range(many)]
                args[place] = strange
                self.refused(errors.BadBook, None, function, *args, *others)
        for strange in STRANGE:
            self.refused(errors.BadBook, None, function, *[strange] * many, *[strange] * len(others))

    def unchanged(self, function, *args):
        """What function returns; the lists among args are the same afterwards."""
        before = copy.deepcopy(args)
        found = function(*args)
        self.assertEqual(args, before)
        return found

    def numbers_within(self, prime, value, depth):
        """value is a tuple, depth deep, of numbers from 0 to prime - 1."""
        if depth == 0:
            self.assertIs(type(value), int)
            self.assertTrue(0 <= value < prime)
            return
        self.assertIs(type(value), tuple)
        for part in value:
            self.numbers_within(prime, part, depth - 1)

    def is_tidy(self, prime, size, rows):
        """rows is a tidy list: a list of tuples."""
        from tests import plainly
        self.assertIs(type(rows), list)
        for row in rows:
            self.numbers_within(prime, row, 1)
            self.assertEqual(len(row), size)
        self.assertEqual(rows, plainly.tidy(rows, prime))
