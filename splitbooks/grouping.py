"""Whether a cube joins three things alike in both groupings, asked of few things that make all others."""

from splitbooks.linear import flat, plain, unit
from splitbooks.packs import Comparer, Fields, total, wide_enough
from splitbooks.stairs import Stairs


class Grouping:
    """A cube of joined things as packs: squares have a field for each k, m, where thing k is what is joined to.

    Thing i is good if (i joined to j) joined to k is i joined to (j joined to k) for all j and k. Sums of
    multiples of good things are good, and so is what good things are joined to: there is no need to look at them.
    """

    def __init__(self, prime, cube):
        size = len(cube)
        most = size * prime ** 2
        self.prime = prime
        self.size = size
        self.cube = cube
        self.fields = Fields(prime, size * size, wide_enough(prime, most))
        self.lines = Fields(prime, size, wide_enough(prime, most))
        self.comparer = Comparer(self.fields, most)
        self.squares = [self.fields.packed(flat(square)) for square in cube]
        # At j, b the numbers at b of j joined to each k, at the last field of k.
        self.columns = [[self.fields.spread(column, size) for column in zip(*square)] for square in cube]
        self.leaders = {}
        self.makers = []
        self.kept = []
        self.stairs = Stairs(prime, size)

    def leader(self, i):
        """The packs of what thing i is joined to: one for each thing behind it."""
        if i not in self.leaders:
            self.leaders[i] = [self.lines.packed(row) for row in self.cube[i]]
        return self.leaders[i]

    def fault_of(self, i):
        """(i, j, k) for the least j, k for which i, j and k are joined unlike in both ways, or None."""
        leader = self.leader(i)
        for j, row in enumerate(self.cube[i]):
            first = total(row, self.squares)
            last = total(self.columns[j], leader)
            place = self.comparer.first_unlike(first, last)
            if place is not None:
                return (i, j, place // self.size)
        return None

    def grow(self, i):
        """Takes thing i as a further maker: all that makers make, joined as often as one likes, is kept."""
        self.makers.append(i)
        leaders = [self.leader(maker) for maker in self.makers]
        waiting = self.led_by(leaders[-1:], self.kept)
        waiting.append(unit(self.size, i))
        while waiting and not self.stairs.is_full():
            row = self.stairs.taken(waiting.pop())
            if row is not None:
                self.kept.append(row)
                waiting.extend(self.led_by(leaders, [row]))

    def led_by(self, leaders, rows):
        """What the leaders lead the rows to, but for 0."""
        packs = [total(row, leader) for leader in leaders for row in rows]
        return [self.lines.unpacked(pack) for pack in packs if pack]

    def fault(self):
        """The least (i, j, k) that are joined unlike in both ways, or None; then makers make all things."""
        for i in range(self.size):
            if self.stairs.is_full():
                return None
            if any(self.stairs.rest(unit(self.size, i))):
                fault = self.fault_of(i)
                if fault is not None:
                    return fault
                self.grow(i)
        return None

    def is_one(self, row):
        """Whether row, joined to each thing from either side, leaves it."""
        thing = self.fields.packed(flat(plain(self.size)))
        if not self.comparer.are_alike(total(row, self.squares), thing):
            return False
        behind = [self.fields.packed(flat(rows)) for rows in zip(*self.cube)]
        return self.comparer.are_alike(total(row, behind), thing)

    def told(self, row):
        """The square of what row tells of thing i joined to thing j."""
        shifts = self.fields.shifts[self.size - 1::self.size]
        mask = self.fields.mask
        packs = [total(row, columns) for columns in self.columns]
        return tuple([tuple([(pack >> shift & mask) % self.prime for shift in shifts]) for pack in packs])
