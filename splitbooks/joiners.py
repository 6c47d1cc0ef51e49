"""Joining, again and again, by the same table."""

from splitbooks.linear import combined, flat, folded, inverse
from splitbooks.packs import Fields, total


class Joiner:
    """A cube of joined things as packs, for rows that are joined often."""

    def __init__(self, prime, cube):
        size = len(cube)
        most = size ** 2 * prime ** 3
        self.prime = prime
        self.size = size
        self.fields = Fields(prime, size, most)
        self.wide = Fields(prime, size * size, most)
        self.squares = [self.wide.packed(flat(square)) for square in cube]
        width = self.fields.width * size
        self.part = (1 << width) - 1
        self.shifts = list(range(width * (size - 1), -1, -width))

    def joined(self, first, second):
        """The row to which two rows, in this sequence, are joined."""
        pack = total(first, self.squares)
        so_far = 0
        for number, shift in zip(second, self.shifts):
            if number:
                so_far = so_far + number * (pack >> shift & self.part)
        return self.fields.unpacked(so_far)

    def leader(self, row):
        """The map that leads each row to row joined to it."""
        return folded(self.wide.unpacked(total(row, self.squares)), self.size)

    def power(self, row, exponent):
        """The product of exponent factors row, at least one."""
        bits = f"{exponent:b}"
        result = row
        for bit in bits[1:]:
            result = self.joined(result, result)
            if bit == "1":
                result = self.joined(result, row)
        return result


def led_behind(prime, cube, row):
    """The map that leads each row to it joined to row."""
    return tuple([combined(row, square, prime) for square in cube])


def row_undone(prime, cube, one, row):
    """The row that, joined to row in either sequence, is one; None if there is none."""
    # What undoes a row from one side does so from the other.
    undone = inverse(led_behind(prime, cube, row), prime)
    return None if undone is None else combined(one, undone, prime)
