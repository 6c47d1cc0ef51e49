"""What is left of joins once fading things count as 0, and the blocks that it falls into."""

from splitbooks.idempotents import central_rows, least_parts
from splitbooks.joiners import Joiner
from splitbooks.linear import combined, down_map, led_all, places_left, tidy_list
from splitbooks.selves import digit
from splitbooks.stairs import Stairs


class Rest:
    """The joins of things up to sums of fading ones, as rows of numbers of those things at which no fading row begins.

    things are their places; down is the map that leads each thing to what is left of it.
    """

    def __init__(self, prime, joins, one, fading):
        self.prime = prime
        self.things = places_left(fading, len(joins))
        self.down = down_map(fading, len(joins), prime)
        self.joins = [led_all([joins[i][j] for j in self.things], self.down, prime) for i in self.things]
        self.one = combined(one, self.down, prime)
        self.joiner = Joiner(prime, self.joins)
        self.middle = central_rows(prime, self.joins)
        self.parts = least_parts(self.joiner, self.middle, self.one)

    def up(self, row):
        """The thing with these numbers at the places of things and 0 elsewhere."""
        numbers = dict(zip(self.things, row))
        return tuple([numbers.get(at, 0) for at in range(len(self.down))])

    def behind(self, part):
        """The map that leads each row to it joined to part."""
        return tuple([combined(part, square, self.prime) for square in self.joins])

    def lot(self, part):
        """The tidy list of all rows joined to part."""
        return tidy_list(self.behind(part), self.prime)

    def degree(self, part, lot):
        """The number of rows of the tidy list of the middle joined to part; lot is that of part."""
        if len(lot) == 1:
            return 1
        return len(tidy_list(led_all(self.middle, self.joiner.leader(part), self.prime), self.prime))

    def corner(self, part, rows):
        """The tidy list of part joined to each of rows, joined to part."""
        led = led_all(rows, self.joiner.leader(part), self.prime)
        return tidy_list(led_all(led, self.behind(part), self.prime), self.prime)

    def powers_span(self, row, one):
        """The tidy list of one, row, row joined to itself, .."""
        stairs = Stairs(self.prime, len(one))
        leader = self.joiner.leader(row)
        power = one
        while stairs.taken(power) is not None:
            power = combined(power, leader, self.prime)
        return stairs.tidy()

    def smaller_part(self, part, rows):
        """A row that, joined to itself, is itself, a part of part but not all of it; rows is the corner of part."""
        for row in sums_tried(self.prime, rows):
            found = least_parts(self.joiner, self.powers_span(row, part), part)
            if len(found) > 1:
                sizes = [len(self.corner(one, rows)) for one in found]
                return found[sizes.index(min(sizes))]
        return part

    def least_part(self, part, lot, degree):
        """A row that, joined to itself, is itself, a part of part of which no further one can be taken off.

        One of the parts is given, with its lot and its degree.
        """
        # The corner of a part is like the squares of some size m of numbers of a field: m * m * degree rows.
        rows = lot
        while len(rows) > degree:
            part = self.smaller_part(part, rows)
            rows = self.corner(part, rows)
        return part


def sums_tried(prime, rows):
    """Sums of multiples of rows: each of the rows, sums of two, and, if these do not do, all of them."""
    for row in rows:
        yield row
    for number in range(1, prime):
        for at, row in enumerate(rows):
            for other in rows[:at]:
                yield combined([number, 1], [other, row], prime)
    # There are at most 16 rows.
    for number in range(prime ** 16):
        yield combined([digit(number, prime, place) for place in range(len(rows))], rows, prime)
