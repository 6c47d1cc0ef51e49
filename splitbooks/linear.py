"""Sums of multiples of rows modulo a prime: maps put together and undone, tidy lists."""

from splitbooks.packs import Fields, total
from splitbooks.stairs import Stairs, kernel

# Fewer rows are led quicker number by number.
LEAST_ROWS = 3
MANY_ROWS = 2


def unit(size, place):
    """The row with 1 at place and 0 elsewhere."""
    return tuple([1 if at == place else 0 for at in range(size)])


def plain(size):
    """The map that leads each row to itself."""
    return tuple([unit(size, place) for place in range(size)])


def across(rows):
    """The rows read across: rows[j][i] at i, j."""
    return tuple([tuple(column) for column in zip(*rows)])


def flat(rows):
    """The numbers of all rows, one row behind the other, as one row; of a cube likewise all rows."""
    return tuple([number for row in rows for number in row])


def folded(row, width):
    """A row cut into rows of this width: what flat undoes."""
    return tuple([tuple(row[start:start + width]) for start in range(0, len(row), width)])


def paired(first, second):
    """The square of all products: first[j] * second[k] at j, k (not yet modulo the prime)."""
    return tuple([tuple([one * other for other in second]) for one in first])


def combined(numbers, rows, prime):
    """The sum of numbers[k] times rows[k]; there is at least one row."""
    sums = [0] * len(rows[0])
    for number, row in zip(numbers, rows):
        if number:
            sums = [so_far + number * more for so_far, more in zip(sums, row)]
    return tuple([number % prime for number in sums])


def led_all(rows, leader, prime):
    """What the map leader leads each of the rows to; all numbers are from 0 to prime - 1."""
    if len(rows) < LEAST_ROWS or not leader[0]:
        return tuple([combined(row, leader, prime) for row in rows])
    fields = Fields(prime, len(leader[0]), len(leader) * prime ** 2)
    packs = [fields.packed(row) for row in leader]
    return tuple([fields.unpacked(total(row, packs)) for row in rows])


def cube_led(cube, firsts, seconds, thirds, prime):
    """The cube that has at i, j, k the sum of firsts[i][a] * seconds[j][b] * cube[a][b][c] * thirds[c][k].

    Where a leader is None, this place of the numbers stays as it is.
    """
    shape = [len(cube), len(cube[0]), len(cube[0][0])]
    rows = [flat(square) for square in cube]
    # Led at the first of three places, which then becomes the last one: three times.
    for leader in (firsts, seconds, None if thirds is None else across(thirds)):
        led = rows if leader is None else led_all(leader, rows, prime)
        shape = shape[1:] + [len(led)]
        numbers = flat(across(led))
        rows = folded(numbers, len(numbers) // shape[0])
    return tuple([folded(row, shape[2]) for row in rows])


def halves_led(square, firsts, seconds, prime):
    """The square with its first halves led by the map firsts, its second ones by seconds."""
    return led_all(across(firsts), led_all(square, seconds, prime), prime)


def trace_of(prime, rows):
    """The sum of the numbers that each place has in its own row."""
    return sum([row[at] for at, row in enumerate(rows)]) % prime


def first_place(row):
    """The place of the first number of a row that is not 0; None for a row of 0."""
    for place, number in enumerate(row):
        if number:
            return place
    return None


def rest_beyond(row, told, prime):
    """What is left of row once multiples of the rows told, each 0 where others begin, are taken off it.

    It has 0 at the first places of all these rows; it is 0 just for their sums of multiples.
    """
    # No row told has anything at the first place of another one, so all are taken off at once.
    numbers = [1] + [-row[first_place(have)] for have in told]
    return combined(numbers, [row] + told, prime)


def beyond_map(tidy, size, prime):
    """The map that leads each row of this size to what is left of it beyond a tidy list: 0 just for its sums."""
    return tuple([rest_beyond(row, tidy, prime) for row in plain(size)])


def places_left(tidy, size):
    """The places, of so many, at which no row of a tidy list has its first number that is not 0."""
    begun = [first_place(row) for row in tidy]
    return [place for place in range(size) if place not in begun]


def down_map(tidy, size, prime):
    """The map that leads each row to what is left of it beyond a tidy list, told by its numbers at places_left."""
    places = places_left(tidy, size)
    return tuple([tuple([row[place] for place in places]) for row in beyond_map(tidy, size, prime)])


def tidy_list(rows, prime):
    """The tidy list of rows of one size."""
    if not rows or not rows[0]:
        return []
    width = len(rows[0])
    if len(rows) > MANY_ROWS * width:
        # Of many rows it is quicker to ask first which sums of columns are 0.
        empty = kernel(across(rows), prime)
        return kernel(across(empty), prime) if empty else list(plain(width))
    stairs = Stairs(prime, width)
    for row in rows:
        stairs.taken(row)
        if stairs.is_full():
            return list(plain(width))
    return stairs.tidy()


def is_sum_of(row, tidy, prime):
    """Whether row is a sum of multiples of the rows of a tidy list."""
    return first_place(rest_beyond(row, tidy, prime)) is None


def inverse(rows, prime):
    """The map that undoes a square's map; None if there is none."""
    size = len(rows)
    told = tidy_list([tuple(row) + unit(size, at) for at, row in enumerate(rows)], prime)
    if [first_place(row) for row in told] != list(range(size)):
        return None
    return tuple([row[size:] for row in told])
