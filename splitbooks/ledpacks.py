"""Squares as packs, for leading all rows of one of them by another one at once."""

from splitbooks.linear import flat
from splitbooks.packs import Comparer, Fields, total, wide_enough

# Rows of more numbers are led quicker one by one.
FEW_PLACES = 18


class LedSquares:
    """Squares of one size as packs with a field for each row and place, wide enough for sums up to most."""

    def __init__(self, prime, squares, most):
        size = len(squares[0])
        self.size = size
        self.squares = squares
        self.fields = Fields(prime, size * size, wide_enough(prime, most))
        self.lines = Fields(prime, size, wide_enough(prime, most))
        self.comparer = Comparer(self.fields, most)
        self.packs = [self.fields.packed(flat(square)) for square in squares]
        self.many_digits = size * self.fields.digits
        self.known_rows = {}
        self.known_columns = {}

    def rows(self, k):
        """The packs of the rows of square k."""
        if k not in self.known_rows:
            self.known_rows[k] = [self.lines.packed(row) for row in self.squares[k]]
        return self.known_rows[k]

    def columns(self, k):
        """The numbers of square k in each column, each at the last field of its row."""
        if k not in self.known_columns:
            square = self.squares[k]
            self.known_columns[k] = [self.fields.spread(column, self.size) for column in zip(*square)]
        return self.known_columns[k]

    def led(self, k, leader):
        """The pack of the rows of square k, each led by the square with the index leader."""
        rows = self.rows(leader)
        if self.size <= FEW_PLACES:
            return total(self.columns(k), rows)
        packs = [total(row, rows) for row in self.squares[k]]
        return int("".join([f"{pack:x}".zfill(self.many_digits) for pack in packs]), 16)
