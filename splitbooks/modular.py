"""Sums of exponents that have to be 0 modulo any number, and how many ways there are to choose these exponents."""


def shared_factor(one, other):
    """(d, x, y) with d, the greatest number that divides both, being x * one + y * other; one and other are above 0."""
    first = (one, 1, 0)
    second = (other, 0, 1)
    while second[0]:
        times = first[0] // second[0]
        rest = tuple([more - times * less for more, less in zip(first, second)])
        first = second
        second = rest
    return first


class Relations:
    """Rows of numbers modulo a number: the products of the numbers chosen with each row have to have the sum 0.

    For each place there is a row that begins there; among the sums of multiples of all rows is modulus at one
    place and 0 elsewhere, for each place. So there are as many choices as the numbers at the beginnings multiply to.
    """

    def __init__(self, modulus, width):
        self.modulus = modulus
        self.kept_rows = [[modulus if at == place else 0 for at in range(width)] for place in range(width)]

    def take(self, row):
        """A further row is wanted to have the sum 0."""
        modulus = self.modulus
        rest = [number % modulus for number in row]
        for place, have in enumerate(list(self.kept_rows)):
            if rest[place]:
                found, x, y = shared_factor(have[place], rest[place])
                one = have[place] // found
                other = rest[place] // found
                kept = [(x * more + y * number) % modulus for more, number in zip(have, rest)]
                # This number alone may be the modulus itself.
                kept[place] = found
                self.kept_rows[place] = kept
                rest = [(one * number - other * more) % modulus for more, number in zip(have, rest)]

    def many_choices(self):
        """How many choices of numbers from 0 to modulus - 1 have the sum 0 with each row."""
        many = 1
        for place, row in enumerate(self.kept_rows):
            many = many * row[place]
        return many
