"""Few things of a table of joins from which, joined again and again, all others come."""

from splitbooks.linear import combined, flat, folded, unit
from splitbooks.packs import Fields, total
from splitbooks.stairs import Stairs

MANY_MAKERS = 8


class Growth:
    """All that some makers make, joined as often as one likes; further makers may be taken."""

    def __init__(self, prime, cube):
        self.size = len(cube)
        self.cube = cube
        self.lines = Fields(prime, self.size, self.size * prime ** 2)
        self.stairs = Stairs(prime, self.size)
        self.makers = []
        self.leaders = []
        self.kept = []

    def lacks(self, i):
        """Whether thing i is no sum of multiples of what the makers make."""
        return not self.stairs.is_full() and any(self.stairs.rest(unit(self.size, i)))

    def grow(self, i):
        """Takes thing i as a further maker."""
        self.makers.append(i)
        self.take(unit(self.size, i), self.cube[i])

    def take(self, row, square):
        """Takes a row, and the square of what each thing becomes behind it: all that it makes is kept."""
        self.leaders.append([self.lines.packed(line) for line in square])
        waiting = self.led_by(self.leaders[-1:], self.kept)
        waiting.append(row)
        while waiting and not self.stairs.is_full():
            kept = self.stairs.taken(waiting.pop())
            if kept is not None:
                self.kept.append(kept)
                waiting.extend(self.led_by(self.leaders, [kept]))

    def led_by(self, leaders, rows):
        """What the leaders, joined ahead of them, make of the rows, but for 0."""
        packs = [total(row, leader) for leader in leaders for row in rows]
        return [self.lines.unpacked(pack) for pack in packs if pack]


def makers_of(prime, joins):
    """The places of makers from which all things come, ascending: none of them comes from those before it."""
    growth = Growth(prime, joins)
    for i in range(len(joins)):
        if growth.lacks(i):
            growth.grow(i)
    return growth.makers


def scattered(prime, size, start):
    """A row of numbers that follow no simple rule, but are always the same ones."""
    number = start + 1
    row = []
    for _ in range(size):
        number = (number * 1103515245 + 12345) % 2147483648
        row.append((number >> 16) % prime)
    return tuple(row)


def scattered_makers(prime, joins, most):
    """Scattered rows from which all things come, with the squares of what things become behind them; or None.

    There are at most so many.
    """
    size = len(joins)
    growth = Growth(prime, joins)
    flats = [flat(square) for square in joins]
    found = []
    for start in range(most):
        row = scattered(prime, size, start)
        square = folded(combined(row, flats, prime), size)
        found.append((row, square))
        growth.take(row, square)
        if growth.stairs.is_full():
            return found
    return None


def making_rows(prime, joins):
    """Pairs of rows from which all things come, and of the squares of what things become behind them."""
    places = makers_of(prime, joins)
    if len(places) > MANY_MAKERS:
        # Where things are joined to hardly any others, sums of many things make more than single things do.
        found = scattered_makers(prime, joins, len(places) // 2)
        if found is not None:
            return found
    return [(unit(len(joins), place), joins[place]) for place in places]
