"""Joining, splitting and counting by bare tables, whose numbers are all from 0 to prime - 1.

Nothing here asks whether the tables are a splitbook: what judges them works with these, too.
"""

from splitbooks.linear import across, combined, cube_led, flat, folded, halves_led, led_all, paired


def rows_joined(prime, joins, first, second):
    """The row to which two rows, in this sequence, are joined."""
    return combined(flat(paired(first, second)), flat(joins), prime)


def all_joined(prime, joins, firsts, seconds):
    """At a, b the row to which firsts[a] and seconds[b] are joined."""
    return cube_led(joins, firsts, seconds, None, prime)


def turned_cube(cube):
    """The cube that has cube[i][j][k] at j, k, i."""
    flats = [flat(square) for square in cube]
    size = len(cube)
    return folded(list(zip(*flats)), size)


def turned_back_cube(cube):
    """The cube that has cube[j][k][i] at i, j, k."""
    size = len(cube)
    return tuple([folded(row, size) for row in across(flat(cube))])


def row_split(prime, splits, row):
    """The square of numbers at the halves of a row."""
    return tuple([combined(row, [square[at] for square in splits], prime) for at in range(len(row))])


def row_counted(prime, counts, row):
    """The count of a row."""
    return sum([number * count for number, count in zip(row, counts)]) % prime


def rows_paired(prime, first, second):
    """The square of the pair of two rows."""
    return tuple([tuple([one * other % prime for other in second]) for one in first])


def firsts_joined(prime, joins, square):
    """At a, for each second half of square, one behind the other: thing a joined to its first halves."""
    return [flat(led_all(across(square), rows, prime)) for rows in joins]


def met_by(prime, joins, square, led):
    """square joined, half by half, to the square of which led is the firsts_joined."""
    size = len(joins)
    # met[b] has at d * size + m the number at m, the first halves being done, for the second halves b and d.
    met = led_all(across(square), led, prime)
    pairs = [flat([row[m::size] for row in met]) for m in range(size)]
    return led_all(pairs, flat(joins), prime)


def few_met(prime, joins, entries, second):
    """The square of few pairs, in entries (first half, second half, number), joined half by half to a square."""
    sums = [[0] * len(joins) for _ in joins]
    for a, b, number in entries:
        led = halves_led(second, joins[a], joins[b], prime)
        sums = [[so_far + number * more for so_far, more in zip(row, line)] for row, line in zip(sums, led)]
    return tuple([tuple([so_far % prime for so_far in row]) for row in sums])


def squares_met(prime, joins, first, second):
    """Two squares joined half by half: first halves to first ones, second halves to second ones."""
    entries = [(a, b, number) for a, row in enumerate(first) for b, number in enumerate(row) if number]
    if len(entries) <= len(joins):
        return few_met(prime, joins, entries, second)
    return met_by(prime, joins, first, firsts_joined(prime, joins, second))


def halves_met(prime, joins, square):
    """The sum of square[j][k] times thing j joined to thing k."""
    return combined(flat(square), flat(joins), prime)


def counts_to_one(prime, counts, one):
    """The map that leads each thing to its count times one."""
    return rows_paired(prime, counts, one)


def maps_convolved(prime, splits, joins, first, second):
    """The map to what each split becomes, first halves led by first, second ones by second, and then joined."""
    squares = cube_led(splits, None, across(first), second, prime)
    return led_all([flat(square) for square in squares], flat(joins), prime)
