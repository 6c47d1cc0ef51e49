"""Few things of a table of joins from which, joined again and again, all others come."""

from splitbooks.linear import unit
from splitbooks.packs import Fields, total
from splitbooks.stairs import Stairs


class Growth:
    """All that some makers make, joined as often as one likes; further makers may be taken."""

    def __init__(self, prime, cube):
        self.size = len(cube)
        self.cube = cube
        self.lines = Fields(prime, self.size, self.size * prime ** 2)
        self.stairs = Stairs(prime, self.size)
        self.makers = []
        self.makers_packs = []
        self.kept = []

    def lacks(self, i):
        """Whether thing i is no sum of multiples of what the makers make."""
        return not self.stairs.is_full() and any(self.stairs.rest(unit(self.size, i)))

    def grow(self, i):
        """Takes thing i as a further maker."""
        self.makers.append(i)
        self.makers_packs.append([self.lines.packed(row) for row in self.cube[i]])
        waiting = self.led_by(self.makers_packs[-1:], self.kept)
        waiting.append(unit(self.size, i))
        while waiting and not self.stairs.is_full():
            row = self.stairs.taken(waiting.pop())
            if row is not None:
                self.kept.append(row)
                waiting.extend(self.led_by(self.makers_packs, [row]))

    def led_by(self, leaders, rows):
        """What the leaders, joined ahead of them, make of the rows, but for 0."""
        packs = [total(row, leader) for leader in leaders for row in rows]
        return [self.lines.unpacked(pack) for pack in packs if pack]


def makers_of(prime, joins):
    """The places of makers from which all things come, ascending: none of them comes from those before it."""
    growth = Growth(prime, joins)
    for i in range(len(joins)):
        if growth.lacks(i):
            growth.grow(i)
    return growth.makers
