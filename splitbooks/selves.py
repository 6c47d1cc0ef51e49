"""The rows that split into themselves twice, found from bare splits and counts."""

from splitbooks.linear import across, beyond_map, combined, first_place, flat, folded, inverse, led_all, plain
from splitbooks.powers import number_undone
from splitbooks.stairs import Stairs, kernel
from splitbooks.tables import row_counted


def even_handed(prime, splits):
    """The tidy list of the rows whose splits stay the same if their halves are exchanged."""
    rows = []
    for square in splits:
        rows.append([(number - other) % prime for number, other in zip(flat(square), flat(across(square)))])
    return kernel(rows, prime)


def even_within(prime, splits):
    """The tidy list of the rows whose splits, however often made, stay the same if halves are exchanged."""
    rows = even_handed(prime, splits)
    size = len(splits)
    if len(rows) == size or not rows:
        return rows
    # It is enough that what is left of each split, a first half taken off, stays the same.
    beyond = beyond_map(rows, size, prime)
    squares = led_all(rows, [flat(square) for square in splits], prime)
    numbers = kernel([flat(led_all(folded(square, size), beyond, prime)) for square in squares], prime)
    return list(led_all(numbers, rows, prime))


def digit(number, base, place):
    """The digit of a number at a place, from the last one on."""
    for _ in range(place):
        number = number // base
    return number % base


def choices_of_halves(prime, size):
    """Rows of numbers by which first halves are told: few that tell much, then one for each thing."""
    several = []
    reach = 1
    while reach < size:
        several.append([digit(at, prime, len(several)) for at in range(size)])
        reach = reach * prime
    return several + list(plain(size))


def least_sum(prime, square, counts):
    """The rows counts, counts led by the square, .. as far as none is a sum of the others; and the sum that is 0.

    The sum is told by its numbers, that of the last row first.
    """
    stairs = Stairs(prime, len(counts))
    rows = [counts]
    while stairs.taken(rows[-1]) is not None:
        rows.append(combined(rows[-1], across(square), prime))
    last = [list(row) for row in reversed(rows)]
    return rows[:-1], kernel(last, prime)[0]


def roots(prime, numbers):
    """The numbers whose powers, times numbers from the highest power on, have the sum 0."""
    found = []
    for root in range(prime):
        value = 0
        for number in numbers:
            value = (value * root + number) % prime
        if value == 0:
            found.append(root)
    return found


def powers_of(number, many, prime):
    """So many powers of a number, from 1 on."""
    row = [1]
    while len(row) < many:
        row.append(row[-1] * number % prime)
    return row


def parted(prime, rows, leader, counts):
    """Tidy lists of those sums of multiples of rows, a tidy list, that the map leader leads to multiples of themselves.

    The map leads sums of the rows to such sums.
    """
    places = [first_place(row) for row in rows]
    square = led_all(rows, [[row[place] for place in places] for row in leader], prime)
    some, relation = least_sum(prime, square, tuple([row_counted(prime, counts, row) for row in rows]))
    found = roots(prime, relation)
    if len(found) == len(rows):
        # Each of these tells, of what counts become, the powers of one root.
        undone = inverse(across(some), prime)
        numbers = led_all([powers_of(root, len(rows), prime) for root in found], undone, prime)
        return [[row] for row in led_all(numbers, rows, prime)]
    parts = []
    for root in found:
        less = []
        for at, row in enumerate(square):
            line = list(row)
            line[at] = (line[at] - root) % prime
            less.append(line)
        parts.append(list(led_all(kernel(less, prime), rows, prime)))
    return parts


def selfsplits(prime, splits, counts):
    """The list of all rows with count 1 that split into themselves twice."""
    rows = even_within(prime, splits)
    parts = [rows] if rows else []
    for choice in choices_of_halves(prime, len(splits)):
        if any([len(rows) > 1 for rows in parts]):
            # What is left of each split once its first halves are told by the choice.
            leader = [combined(choice, square, prime) for square in splits]
            more = []
            for rows in parts:
                more.extend(parted(prime, rows, leader, counts) if len(rows) > 1 else [rows])
            parts = more
    found = []
    for rows in parts:
        count = row_counted(prime, counts, rows[0])
        found.append(combined([number_undone(count, prime)], rows, prime))
    return found
