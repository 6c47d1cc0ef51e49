"""Rows of numbers kept side by side in one big number, so that one sum of these adds whole rows."""

WORDS = (
    "00", "01", "02", "03", "04", "05", "06", "07", "08", "09", "0a", "0b", "0c", "0d", "0e", "0f", "10",
    "11", "12", "13", "14", "15", "16", "17", "18", "19", "1a", "1b", "1c", "1d", "1e", "1f", "20", "21",
    "22", "23", "24", "25", "26", "27", "28", "29", "2a", "2b", "2c", "2d", "2e", "2f", "30", "31", "32",
    "33", "34", "35", "36", "37", "38", "39", "3a", "3b", "3c", "3d", "3e", "3f", "40", "41", "42", "43",
    "44", "45", "46", "47", "48", "49", "4a", "4b", "4c", "4d", "4e", "4f", "50", "51", "52", "53", "54",
    "55", "56", "57", "58", "59", "5a", "5b", "5c", "5d", "5e", "5f", "60")
BITS_OF_WORDS = 7
MANY_FIELDS = 128
FEW_FIELDS = 64


def total(numbers, packs):
    """The sum of numbers[k] times packs[k]."""
    so_far = 0
    for number, pack in zip(numbers, packs):
        if number:
            so_far = so_far + number * pack
    return so_far


class Fields:
    """How many numbers stand side by side in one: each in a field of its own, the first one on top.

    The fields are wide enough for sums up to most. What is packed is from 0 to 96.
    """

    def __init__(self, prime, many, most):
        self.prime = prime
        self.many = many
        self.digits = (max(most.bit_length(), BITS_OF_WORDS) + 3) // 4
        self.width = 4 * self.digits
        self.mask = (1 << self.width) - 1
        self.shifts = list(range(self.width * (many - 1), -1, -self.width))
        self.gap = "0" * (self.digits - 2)

    def packed(self, row):
        """The pack of a row of numbers."""
        if not any(row):
            return 0
        return int(self.gap.join([WORDS[number] for number in row]), 16)

    def spread(self, row, step):
        """The pack that has the numbers of a row in its last fields, each step fields behind the one before."""
        if not any(row):
            return 0
        gap = "0" * (self.digits * step - 2)
        return int(gap.join([WORDS[number] for number in row]), 16)

    def unpacked(self, pack):
        """The row of the numbers of a pack, modulo the prime."""
        mask = self.mask
        prime = self.prime
        if self.many <= MANY_FIELDS:
            return tuple([(pack >> shift & mask) % prime for shift in self.shifts])
        # To move a long number takes as long for each field: so it is cut into short ones.
        text = f"{pack:x}".zfill(self.many * self.digits)
        found = []
        for start in range(0, self.many, FEW_FIELDS):
            end = min(start + FEW_FIELDS, self.many)
            part = int(text[start * self.digits:end * self.digits], 16)
            found.extend([(part >> shift & mask) % prime for shift in self.shifts[start - end:]])
        return tuple(found)

    def number_at(self, pack, place):
        """The number of a pack at a place, modulo the prime."""
        return (pack >> self.shifts[place] & self.mask) % self.prime

    def first_place(self, pack):
        """The place of the first number of a pack that is no multiple of the prime; None if there is none."""
        while pack:
            above = (pack.bit_length() - 1) // self.width
            shift = above * self.width
            if (pack >> shift) % self.prime:
                return self.many - 1 - above
            pack = pack & ((1 << shift) - 1)
        return None


class Comparer:
    """Tells whether two packs of the same fields have the same numbers modulo the prime.

    The numbers are from 0 to most, and the fields wide enough for wide_enough(prime, most).
    """

    def __init__(self, fields, most):
        self.fields = fields
        self.prime = fields.prime
        # So many multiples of the prime that no difference is below 0.
        lift = (most // fields.prime + 1) * fields.prime
        self.lift = int(f"{lift:x}".zfill(fields.digits) * fields.many, 16)
        # If all fields are multiples of the prime, this part of each is 0 once they are divided by it. If it
        # is 0 in each, the prime times the quotient does not reach from field to field.
        low = fields.width - fields.prime.bit_length()
        part = fields.mask >> low << low
        self.over = int(f"{part:x}" * fields.many, 16)

    def are_alike(self, one, other):
        """Whether the numbers of both packs are the same modulo the prime."""
        if one == other:
            return True
        quotient, rest = divmod(one - other + self.lift, self.prime)
        return rest == 0 and not quotient & self.over

    def first_unlike(self, one, other):
        """The first place at which the numbers of both packs are not the same; None if there is none."""
        if self.are_alike(one, other):
            return None
        return self.fields.first_place(one - other + self.lift)


def wide_enough(prime, most):
    """What fields have to hold so that a Comparer can compare numbers from 0 to most in them."""
    return 4 * (most + prime)
