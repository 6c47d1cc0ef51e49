"""Fields of two or three digits over the numbers modulo a prime, and what is told of their numbers."""

from splitbooks.joiners import Joiner
from splitbooks.linear import inverse, led_all, plain, unit
from splitbooks.tables import row_counted


def rootless_numbers(prime, digits):
    """The row, the least that does, with 0 for t ** (digits - 1), for which no number t has t ** digits told by it.

    It tells, for two or three digits, the sum of its numbers times 1, t, ..
    """
    for c in range(prime):
        for d in range(prime):
            row = (c, 0) if digits == 2 else (d, c, 0)
            if not [t for t in range(prime) if (t * t * (t if digits == 3 else 1) - row[0] - row[1] * t) % prime == 0]:
                return row
    return None


class GreaterField:
    """Rows of digits, the numbers at 1, t, t * t of a number beyond the field; last tells what t makes next."""

    def __init__(self, prime, last):
        digits = len(last)
        self.prime = prime
        self.digits = digits
        self.last = last
        powers = [unit(digits, place) for place in range(digits)]
        while len(powers) < 2 * digits - 1:
            ahead = (0,) + powers[-1][:-1]
            powers.append(tuple([(number + powers[-1][-1] * more) % prime for number, more in zip(ahead, last)]))
        self.joiner = Joiner(prime, [powers[place:place + digits] for place in range(digits)])
        # Prime factors of a number: this goes over sums, and leads each number to the next one that is alike.
        turned = [self.joiner.power(row, prime) for row in powers[:digits]]
        self.turns = [plain(digits)]
        while len(self.turns) < digits:
            self.turns.append(led_all(self.turns[-1], turned, prime))
        # All that are alike, added up, are a number of the field itself.
        self.traces = [sum([rows[place][0] for rows in self.turns]) % prime for place in range(digits)]

    def turned(self, row, times):
        """The number that row is led to, so many times (also fewer than none)."""
        return led_all([row], self.turns[times % self.digits], self.prime)[0]

    def trace(self, row):
        """The sum of all numbers that are alike to row."""
        return row_counted(self.prime, self.traces, row)

    def told(self):
        """The square of the traces of products of 1, t, .."""
        rows = plain(self.digits)
        return tuple([tuple([self.trace(self.joiner.joined(one, other)) for other in rows]) for one in rows])

    def duals(self):
        """The numbers whose products with 1, t, .. have the trace 1 for one of these, and 0 for the others."""
        return inverse(self.told(), self.prime)
