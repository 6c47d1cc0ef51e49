"""Whether splits go with joins, and what undoes each split, by packs of a first half joined to a second thing."""

from splitbooks.linear import flat
from splitbooks.packs import Comparer, Fields, total, wide_enough


class Agreement:
    """Joins, of which a Grouping is given, beside splits.

    met(b, c) is a pack with a field for each j, m: the sum, over the second halves d of thing j that stand
    beside the first half c, of what thing b joined to d has at m.
    """

    def __init__(self, grouping, splits):
        prime = grouping.prime
        size = grouping.size
        most = size ** 3 * prime ** 3
        self.grouping = grouping
        self.prime = prime
        self.size = size
        self.joins = grouping.cube
        self.splits = splits
        self.fields = Fields(prime, size * size, wide_enough(prime, most))
        self.comparer = Comparer(self.fields, most)
        self.many_digits = size * self.fields.digits
        self.texts = self.texts_met()
        self.known = {}
        # At m, a the numbers that the split of thing a has behind the first half m.
        self.lines = [[self.fields.packed(row) for row in rows] for rows in zip(*splits)]

    def texts_met(self):
        """At j, c the digits of what met has for thing j and its first half c, for one thing b behind the other."""
        all_digits = self.size * self.many_digits
        nothing = "0" * all_digits
        # At d, for each b, thing b joined to d.
        behind = [self.fields.packed(flat(rows)) for rows in zip(*self.joins)]
        texts = []
        for square in self.splits:
            packs = [total(row, behind) for row in square]
            texts.append([f"{pack:x}".zfill(all_digits) if pack else nothing for pack in packs])
        return texts

    def met(self, b, c):
        """The pack told above, put together of its digits once."""
        if (b, c) not in self.known:
            start = b * self.many_digits
            parts = [texts[c][start:start + self.many_digits] for texts in self.texts]
            self.known[(b, c)] = int("".join(parts), 16)
        return self.known[(b, c)]

    def halves_of(self, i):
        """(b, c, row) for each second half b of thing i: row has what the first halves, joined to c, are, if not 0."""
        found = []
        square = self.splits[i]
        for b, column in enumerate(zip(*square)):
            if any(column):
                numbers = self.grouping.fields.unpacked(total(column, self.grouping.squares))
                for c in range(self.size):
                    row = numbers[c * self.size:(c + 1) * self.size]
                    if any(row):
                        found.append((b, c, row))
        return found

    def fault_of(self, i):
        """The least j for which the split of i joined to j is not both splits joined half by half, or None."""
        halves = self.halves_of(i)
        packs = [self.met(b, c) for b, c, _ in halves]
        square = self.joins[i]
        columns = [self.fields.spread(column, self.size) for column in zip(*square)]
        least = None
        for m, lines in enumerate(self.lines):
            joined = total([row[m] for _, _, row in halves], packs)
            place = self.comparer.first_unlike(joined, total(columns, lines))
            if place is not None and (least is None or place // self.size < least):
                least = place // self.size
        return least

    def holds(self):
        """Whether all splits go with joins; it is enough to look at the makers."""
        return not any([self.fault_of(i) is not None for i in self.grouping.makers])

    def undoes(self, back, counts, one):
        """Whether the first halves, led by the map back, and the second ones are always joined to the count of one."""
        numbers = []
        packs = []
        for c, row in enumerate(back):
            for b, number in enumerate(row):
                if number:
                    numbers.append(number)
                    packs.append(self.met(b, c))
        wanted = self.fields.packed([count * number % self.prime for count in counts for number in one])
        return self.comparer.are_alike(total(numbers, packs), wanted)
