"""Sums of multiples of rows modulo a prime: maps put together and undone, tidy lists."""


def power(number, exponent, prime):
    """The product of exponent factors number, modulo the prime."""
    total = 1
    for _ in range(exponent):
        total = total * number % prime
    return total


def is_power_above(number, exponent, most):
    """Whether the product of exponent factors number, a number from 2 on, is above most."""
    total = 1
    for _ in range(exponent):
        total = total * number
        if total > most:
            return True
    return False


def number_undone(number, prime):
    """The number that, times number, is 1 modulo the prime; number is not 0 there."""
    return power(number, prime - 2, prime)


def unit(size, place):
    """The row with 1 at place and 0 elsewhere."""
    return tuple([1 if at == place else 0 for at in range(size)])


def plain(size):
    """The map that leads each row to itself."""
    return tuple([unit(size, place) for place in range(size)])


def across(rows):
    """The rows read across: rows[j][i] at i, j."""
    return tuple([tuple(column) for column in zip(*rows)])


def flat(rows):
    """The numbers of all rows, one row behind the other, as one row; of a cube likewise all rows."""
    return tuple([number for row in rows for number in row])


def folded(row, width):
    """A row cut into rows of this width: what flat undoes."""
    return tuple([tuple(row[start:start + width]) for start in range(0, len(row), width)])


def paired(first, second):
    """The square of all products: first[j] * second[k] at j, k (not yet modulo the prime)."""
    return tuple([tuple([one * other for other in second]) for one in first])


def combined(numbers, rows, prime):
    """The sum of numbers[k] times rows[k]; there is at least one row."""
    total = [0] * len(rows[0])
    for number, row in zip(numbers, rows):
        if number:
            total = [so_far + number * more for so_far, more in zip(total, row)]
    return tuple([number % prime for number in total])


def led_all(rows, leader, prime):
    """What the map leader leads each of the rows to."""
    return tuple([combined(row, leader, prime) for row in rows])


def halves_led(square, firsts, seconds, prime):
    """The square with its first halves led by the map firsts, its second ones by seconds."""
    return led_all(across(firsts), led_all(square, seconds, prime), prime)


def first_place(row):
    """The place of the first number of a row that is not 0; None for a row of 0."""
    for place, number in enumerate(row):
        if number:
            return place
    return None


def rest_beyond(row, told, prime):
    """What is left of row once multiples of the rows told, each 0 where others begin, are taken off it.

    It has 0 at the first places of all these rows; it is 0 just for their sums of multiples.
    """
    # No row told has anything at the first place of another one, so all are taken off at once.
    numbers = [1] + [-row[first_place(have)] for have in told]
    return combined(numbers, [row] + told, prime)


def tidy_list(rows, prime):
    """The tidy list of rows of one size."""
    found = {}
    for row in rows:
        rest = rest_beyond(row, list(found.values()), prime)
        place = first_place(rest)
        if place is not None:
            new = combined([number_undone(rest[place], prime)], [rest], prime)
            found = {at: combined([1, -have[place]], [have, new], prime) for at, have in found.items()}
            found[place] = new
    return [found[place] for place in sorted(found)]


def is_sum_of(row, tidy, prime):
    """Whether row is a sum of multiples of the rows of a tidy list."""
    return first_place(rest_beyond(row, tidy, prime)) is None


def kernel(rows, prime):
    """The tidy list of all rows of numbers for which the sum of these times the rows is 0."""
    width = len(rows[0])
    told = tidy_list([row + unit(len(rows), at) for at, row in enumerate(rows)], prime)
    return [row[width:] for row in told if first_place(row) >= width]


def inverse(rows, prime):
    """The map that undoes a square's map; None if there is none."""
    size = len(rows)
    told = tidy_list([row + unit(size, at) for at, row in enumerate(rows)], prime)
    if [first_place(row) for row in told] != list(range(size)):
        return None
    return tuple([row[size:] for row in told])
