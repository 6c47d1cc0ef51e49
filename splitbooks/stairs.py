"""Rows of numbers modulo a prime from which all that is a sum of multiples of others is left out."""

from splitbooks.packs import Fields, total
from splitbooks.powers import number_undone

FEW_ROWS = 50


class Stairs:
    """Rows of one width, kept as packs: each has 1 at its first place, and 0 at those of the ones before it."""

    def __init__(self, prime, width):
        self.prime = prime
        self.fields = Fields(prime, width, (width + 1) * prime ** 2)
        self.packs = []
        self.places = []

    def rest(self, row):
        """What is left of a row once multiples of the rows kept are taken off; 0 just for sums of these."""
        fields = self.fields
        prime = self.prime
        rest = fields.packed(row)
        for place, pack in zip(self.places, self.packs):
            number = (rest >> fields.shifts[place] & fields.mask) % prime
            if number:
                rest = rest + (prime - number) * pack
        return fields.unpacked(rest)

    def taken(self, row):
        """Keeps the rest of a row, times a number, and returns it; None if it is 0."""
        rest = self.rest(row)
        for place, number in enumerate(rest):
            if number:
                undone = number_undone(number, self.prime)
                kept = tuple([undone * one % self.prime for one in rest])
                self.places.append(place)
                self.packs.append(self.fields.packed(kept))
                return kept
        return None

    def is_full(self):
        """Whether all rows are sums of multiples of those kept."""
        return len(self.places) == self.fields.many

    def tidy(self):
        """The tidy list of the rows kept."""
        fields = self.fields
        found = {}
        packs = {}
        # The last one kept is 0 at the places of all others, the one before it at those of all but this one.
        for place, pack in reversed(list(zip(self.places, self.packs))):
            for more, other in packs.items():
                number = (pack >> fields.shifts[more] & fields.mask) % self.prime
                if number:
                    pack = pack + (self.prime - number) * other
            found[place] = fields.unpacked(pack)
            packs[place] = fields.packed(found[place])
        return [found[place] for place in sorted(found)]


def kernel(rows, prime):
    """The tidy list of all rows of numbers for which the sum of these times the rows is 0."""
    many = len(rows)
    if not rows[0]:
        return [tuple([1 if spot == place else 0 for spot in range(many)]) for place in range(many)]
    few = many <= FEW_ROWS
    fields = Fields(prime, len(rows[0]), many * prime ** 2 * (many * prime if few else 1))
    sides = Fields(prime, many, many * prime ** 2)
    packs = [fields.packed(row) for row in rows]
    known = []
    found = []
    # From the last row to the first: so what tells that a row is a sum of later ones begins with its 1.
    for at in reversed(range(many)):
        rest = packs[at]
        side = 1 << sides.shifts[at]
        for place, undone, pack, more in known:
            number = (rest >> fields.shifts[place] & fields.mask) * undone % prime
            if number:
                rest = rest + (prime - number) * pack
                side = side + (prime - number) * more
        numbers = sides.unpacked(side)
        # What is kept must not be too large for its fields: few rows are put together once more, of numbers
        # below the prime, which is quicker than to take these of the rest.
        rest = total(numbers, packs) if few else fields.packed(fields.unpacked(rest))
        place = fields.first_place(rest)
        if place is None:
            found.append(numbers)
        else:
            undone = number_undone(fields.number_at(rest, place), prime)
            known.append((place, undone, rest, sides.packed(numbers)))
    found.reverse()
    return found


def solved(rows, wanted, prime):
    """Numbers for which the sum of these times the rows is wanted, a row as long; None if there are none."""
    relations = kernel([wanted] + rows, prime)
    if not relations or relations[0][0] == 0:
        return None
    return tuple([-number % prime for number in relations[0][1:]])
