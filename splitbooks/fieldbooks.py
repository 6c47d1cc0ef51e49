"""Splitbooks of few things that are those of groups just beyond the field, and likenesses from them.

A lot of things of the group is turned about with the numbers of a greater field that are alike: x stands for the
sum of all numbers alike to x, each times its thing. The other things of the group stand for themselves.
"""

from splitbooks.bases import other_way
from splitbooks.books import Splitbook
from splitbooks.fields import GreaterField, rootless_numbers
from splitbooks.joiners import Joiner
from splitbooks.linear import across, combined, inverse, led_all, plain, tidy_list, trace_of, unit
from splitbooks.simples import walls_of
from splitbooks.stairs import kernel
from splitbooks.tables import row_counted


class FieldBook:
    """A group, the things that stand for themselves (the unit first), and the lot that is turned about."""

    def __init__(self, prime, table, alone, lot):
        self.prime = prime
        self.table = table
        self.alone = alone
        self.moved = lot
        self.size = len(table)
        self.field = GreaterField(prime, rootless_numbers(prime, len(lot)))

    def row(self, thing, number):
        """The row of what is led by number and its alike ones, from the thing of the group ahead of number on."""
        if thing in self.alone:
            return tuple([self.field.trace(number) * more for more in unit(self.size, self.alone.index(thing))])
        return (0,) * len(self.alone) + self.field.turned(number, -self.moved.index(thing))

    def joined(self, first, second):
        """The row to which two numbers of the lot are joined."""
        total = (0,) * self.size
        for at, thing in enumerate(self.moved):
            number = self.field.joiner.joined(first, self.field.turned(second, at))
            total = combined([1, 1], [total, self.row(self.table[self.moved[0]][thing], number)], self.prime)
        return total

    def joins_made(self):
        """The cube of joined things: those that stand for themselves, and then 1, t, .. of the lot."""
        numbers = plain(self.field.digits)
        places = [unit(self.size, at) for at in range(len(self.alone))]
        rows = []
        for one in self.alone:
            near = [places[self.alone.index(self.table[one][other])] for other in self.alone]
            rows.append(near + [self.row(self.table[one][self.moved[0]], number) for number in numbers])
        for number in numbers:
            near = [self.row(self.table[self.moved[0]][other], number) for other in self.alone]
            rows.append(near + [self.joined(number, other) for other in numbers])
        return rows

    def splits_made(self):
        """The squares of splits of the same things."""
        near = len(self.alone)
        duals = self.field.duals()
        joiner = self.field.joiner
        squares = []
        for at in range(near):
            squares.append([unit(self.size, at) if place == at else (0,) * self.size for place in range(self.size)])
        for number in plain(self.field.digits):
            square = [(0,) * self.size for _ in range(near)]
            for one in duals:
                told = [self.field.trace(joiner.joined(number, joiner.joined(one, other))) for other in duals]
                square.append((0,) * near + tuple(told))
            squares.append(square)
        return squares

    def book_made(self):
        """The splitbook of these things."""
        counts = [1] * len(self.alone) + self.field.traces
        return Splitbook(self.prime, self.joins_made(), unit(self.size, 0), self.splits_made(), counts)

    def rows_beyond(self):
        """Rows of the book: those that tell of one thing that stands for itself, and then 1, t, .. of the lot."""
        near = len(self.alone)
        found = [unit(self.size, at) for at in range(near)]
        return found + [(0,) * near + row for row in self.field.told()]


def _root_within(book, wall, last):
    """A row within a wall of rows of which the product of as many factors as last has numbers is told by last.

    Such a row is sought among those of which the traces that last tells are right.
    """
    prime = book.prime
    joiner = Joiner(prime, book.joins)
    rows = tidy_list(joiner.leader(wall), prime)
    level = [trace_of(prime, joiner.leader(row)) for row in rows]
    rows = led_all(kernel([[number] for number in level], prime), rows, prime)
    first, second = rows[0], rows[-1]
    told = [trace_of(prime, joiner.leader(joiner.joined(one, other)))
            for one, other in ((first, first), (first, second), (second, second))]
    digits = len(last)
    # For two digits the row itself is not joined: the square is told by its first number.
    wanted = 2 * last[digits - 2] % prime
    for a in range(1 if digits == 2 else 0, prime):
        for b in range(1 if digits == 2 else prime):
            if (a * a * told[0] + 2 * a * b * told[1] + b * b * told[2]) % prime == wanted:
                row = combined([a, b], [first, second], prime)
                if joiner.power(row, digits) == combined(last[:2], [wall, row], prime):
                    return row
    return None


def field_likeness(kept, book):
    """A likeness from the book of a FieldBook to a splitbook that is alike to it."""
    prime = book.prime
    rows = other_way(book)
    walls = walls_of(rows)
    joiner = Joiner(prime, rows.joins)
    near = []
    lot = None
    for wall in walls:
        if len(tidy_list(joiner.leader(wall), prime)) > 1:
            lot = wall
        elif row_counted(prime, rows.counts, wall):
            near = [wall] + near
        else:
            near.append(wall)
    # The numbers beyond the field come to be rows of the book; likenesses of the rows are read across.
    root = _root_within(rows, lot, kept.field.last)
    images = near + [lot, root, joiner.joined(root, root)]
    led = led_all(inverse(kept.rows_beyond(), prime), images[:book.size], prime)
    return inverse(across(led), prime)
