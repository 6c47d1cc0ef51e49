"""Leads and falls of the same guests: what is handed in, and the first thing that does not go with the falls.

Leads have at x, i, j the number at guest j of what thing x leads guest i to; falls have at i, j, y the number
of guest j paired with thing y in the fall of guest i.
"""

from splitbooks.axes import cube_flat, moved, summed
from splitbooks.checks import need_book
from splitbooks.errors import BadRoom, BadShape
from splitbooks.falls import fault_of_falls, falls_taken
from splitbooks.known import Known
from splitbooks.linear import across, flat
from splitbooks.makers import makers_of
from splitbooks.rooms import leads_fault, leads_taken


def both_taken(book, leads, falls):
    """The leads and the falls modulo the prime, refused if one of them is wrong by itself."""
    leads = leads_taken(book, leads)
    falls = falls_taken(book, falls)
    if len(falls) != len(leads[0]):
        raise BadShape("falls")
    fault = leads_fault(book, leads)
    if fault is None:
        fault = fault_of_falls(book, falls)
    if fault is not None:
        raise BadRoom(fault)
    return leads, falls


class BothTables:
    """Leads and falls, each right by itself, and the numbers of falls of guests that are led, and the like."""

    def __init__(self, book, leads, falls):
        self.book = book
        self.many = book.size
        self.size = len(falls)
        self.joins = cube_flat(book.joins)
        self.leads = cube_flat(leads)
        self.falls = cube_flat(falls)
        # What is right for two things is right for what they are joined to: makers are enough.
        self.makers = makers_of(book.prime, book.joins)

    def fallen(self):
        """At i, j, a, s: guest i falls into guests paired with s, and a leads these to j."""
        shape = [self.size, self.size, self.many]
        guests = moved(self.leads, [self.many, self.size, self.size], [1, 0, 2])
        numbers = summed(moved(self.falls, shape, [0, 2, 1]), guests, self.size, self.book.prime)
        return moved(numbers, [self.size, self.many, self.many, self.size], [0, 3, 2, 1])

    def led(self):
        """At b, i, j, s: b leads guest i to guests that fall into j paired with s."""
        return summed(self.leads, self.falls, self.size, self.book.prime)

    def halves_first(self, x):
        """At a, s, t: the second half that stands beside a in the split of x, joined to s."""
        return summed(flat(self.book.splits[x]), self.joins, self.many, self.book.prime)

    def halves_last(self, x):
        """At b, s, t: s joined to the first half that stands beside b in the split of x."""
        joins = moved(self.joins, [self.many] * 3, [1, 0, 2])
        return summed(flat(across(self.book.splits[x])), joins, self.many, self.book.prime)

    def unlike(self, one, other):
        """The least guest i at which two such numbers, at i, j, t, are not the same; None if there is none."""
        width = self.size * self.many
        for i in range(self.size):
            if one[i * width:(i + 1) * width] != other[i * width:(i + 1) * width]:
                return i
        return None

    def both_fault(self):
        """("both", k, i) for the least k, i for which what k leads i to does not fall half by half, or None."""
        fallen = self.fallen()
        pairs = self.many * self.many
        width = self.size * self.size * self.many
        led = self.led()
        for x in self.makers:
            wanted = summed(fallen, self.halves_first(x), pairs, self.book.prime)
            place = self.unlike(led[x * width:(x + 1) * width], wanted)
            if place is not None:
                return ("both", x, place)
        return None

    def cross_fault(self):
        """("cross", k, i) for the least k, i for which leading guests of falls and falling are not alike, or None."""
        fallen = self.fallen()
        pairs = self.many * self.many
        led = moved(self.led(), [self.many, self.size, self.size, self.many], [1, 2, 0, 3])
        for x in self.makers:
            first = summed(fallen, self.halves_first(x), pairs, self.book.prime)
            last = summed(led, self.halves_last(x), pairs, self.book.prime)
            place = self.unlike(first, last)
            if place is not None:
                return ("cross", x, place)
        return None


def right_both(book, leads, falls, crosswise):
    """The leads and the falls modulo the prime, refused if they are wrong by themselves or not right together.

    Crosswise or not, this tells how they have to be together.
    """
    need_book(book)
    if isinstance(leads, Known) and isinstance(falls, Known):
        return leads.table, falls.table
    leads, falls = both_taken(book, leads, falls)
    tables = BothTables(book, leads, falls)
    fault = tables.cross_fault() if crosswise else tables.both_fault()
    if fault is not None:
        raise BadRoom(fault)
    return leads, falls
