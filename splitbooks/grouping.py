"""Whether a cube joins three things alike in both groupings, asked of few things that make all others."""

from splitbooks.ledpacks import LedSquares
from splitbooks.linear import flat, plain
from splitbooks.makers import Growth
from splitbooks.packs import total


class Grouping:
    """A cube of joined things as packs: squares have a field for each k, m, where thing k is what is joined to.

    Thing i is good if (i joined to j) joined to k is i joined to (j joined to k) for all j and k. Sums of
    multiples of good things are good, and so is what good things are joined to: there is no need to look at them.
    """

    def __init__(self, prime, cube):
        self.prime = prime
        self.size = len(cube)
        self.cube = cube
        self.twice = LedSquares(prime, cube, self.size * prime ** 2)
        self.fields = self.twice.fields
        self.comparer = self.twice.comparer
        self.squares = self.twice.packs
        self.growth = Growth(prime, cube)
        self.makers = self.growth.makers

    def fault_of(self, i):
        """(i, j, k) for the least j, k for which i, j and k are joined unlike in both ways, or None."""
        for j, row in enumerate(self.cube[i]):
            place = self.comparer.first_unlike(total(row, self.squares), self.twice.led(j, i))
            if place is not None:
                return (i, j, place // self.size)
        return None

    def fault(self):
        """The least (i, j, k) that are joined unlike in both ways, or None; then makers make all things."""
        for i in range(self.size):
            if self.growth.lacks(i):
                fault = self.fault_of(i)
                if fault is not None:
                    return fault
                self.growth.grow(i)
        return None

    def is_one(self, row):
        """Whether row, joined to each thing from either side, leaves it."""
        thing = self.fields.packed(flat(plain(self.size)))
        if not self.comparer.are_alike(total(row, self.squares), thing):
            return False
        behind = [self.fields.packed(flat(rows)) for rows in zip(*self.cube)]
        return self.comparer.are_alike(total(row, behind), thing)

    def told(self, row):
        """The square of what row tells of thing i joined to thing j."""
        shifts = self.fields.shifts[self.size - 1::self.size]
        mask = self.fields.mask
        packs = [total(row, self.twice.columns(k)) for k in range(self.size)]
        return tuple([tuple([(pack >> shift & mask) % self.prime for shift in shifts]) for pack in packs])
