"""Spans: sums of multiples of some things, told by tidy lists; what has to come to them to be closed."""

from splitbooks.joiners import Joiner
from splitbooks.linear import across, beyond_map, flat, is_sum_of, led_all, plain
from splitbooks.packs import Fields, total
from splitbooks.stairs import Stairs
from splitbooks.tables import all_joined, row_split


def span_fault(book, tidy, sides):
    """The first tuple that tells why the span of a tidy list is no side span of each of these sides; None if it is."""
    prime = book.prime
    if not is_sum_of(book.one, tidy, prime):
        return ("one",)
    beyond = beyond_map(tidy, book.size, prime)
    for i, rows in enumerate(all_joined(prime, book.joins, tidy, tidy)):
        for j, row in enumerate(led_all(rows, beyond, prime)):
            if any(row):
                return ("joins", i, j)
    for i, row in enumerate(tidy):
        square = row_split(prime, book.splits, row)
        for side in sides:
            halves = square if side == 1 else across(square)
            if any(flat(led_all(halves, beyond, prime))):
                return ("splits", i)
    return None


class SpanGrower:
    """Makes spans of a splitbook closed under joins, and under one side of splits, or both.

    The number of rows of a side span divides the size: a span of more rows than a lesser divisor has is all.
    """

    def __init__(self, book):
        self.prime = book.prime
        self.size = book.size
        self.most = max([many for many in range(1, book.size) if book.size % many == 0], default=1)
        self.one = book.one
        self.joiner = Joiner(book.prime, book.joins)
        self.lines = Fields(book.prime, book.size, book.size * book.prime ** 2)
        self.squares = Fields(book.prime, book.size ** 2, book.size * book.prime ** 2)
        self.splits = [self.squares.packed(flat(square)) for square in book.splits]
        self.leaders = {}

    def leader(self, row):
        """The packs of what row is joined to: one for each thing behind it."""
        if row not in self.leaders:
            self.leaders[row] = [self.lines.packed(line) for line in self.joiner.leader(row)]
        return self.leaders[row]

    def halves(self, rows, side):
        """The tidy list of the first halves (side 0) or second halves (side 1) of splits; all if they are too many."""
        stairs = Stairs(self.prime, self.size)
        for row in rows:
            numbers = self.squares.unpacked(total(row, self.splits))
            for place in range(self.size):
                part = numbers[place::self.size] if side == 0 else numbers[place * self.size:(place + 1) * self.size]
                if stairs.taken(part) is not None and len(stairs.places) > self.most:
                    return list(plain(self.size))
        return stairs.tidy()

    def grown(self, rows):
        """The tidy list of the least span with one and these rows, a tidy list, that is closed under joins."""
        if len(rows) > self.most:
            return list(plain(self.size))
        stairs = Stairs(self.prime, self.size)
        leaders = [self.leader(row) for row in rows]
        waiting = [self.one]
        while waiting:
            row = stairs.taken(waiting.pop())
            if row is not None:
                if len(stairs.places) > self.most:
                    return list(plain(self.size))
                packs = [total(row, leader) for leader in leaders]
                waiting.extend([self.lines.unpacked(pack) for pack in packs if pack])
        return stairs.tidy()

    def by_sides(self, rows, sides):
        """The tidy list of the least span with these rows that is a side span of each of these sides."""
        for side in sides:
            if len(rows) <= self.most:
                rows = self.halves(rows, side)
        return self.grown(rows)
