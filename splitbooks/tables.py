"""Joining, splitting and counting by bare tables, whose numbers are all from 0 to prime - 1.

Nothing here asks whether the tables are a splitbook: what judges them works with these, too.
"""

from splitbooks.linear import across, combined, flat, folded, kernel, led_all, paired, tidy_list


def rows_joined(prime, joins, first, second):
    """The row to which two rows, in this sequence, are joined."""
    return combined(flat(paired(first, second)), flat(joins), prime)


def all_joined(prime, joins, firsts, seconds):
    """At a * len(seconds) + b the row to which firsts[a] and seconds[b] are joined."""
    found = []
    for led in led_all(firsts, [flat(square) for square in joins], prime):
        found.extend(led_all(seconds, folded(led, len(joins)), prime))
    return found


def row_split(prime, splits, row):
    """The square of numbers at the halves of a row."""
    return tuple([combined(row, [square[at] for square in splits], prime) for at in range(len(row))])


def row_counted(prime, counts, row):
    """The count of a row."""
    return sum([number * count for number, count in zip(row, counts)]) % prime


def rows_paired(prime, first, second):
    """The square of the pair of two rows."""
    return tuple([tuple([one * other % prime for other in second]) for one in first])


def firsts_joined(prime, joins, square):
    """At a, for each second half of square, one behind the other: thing a joined to its first halves."""
    return [flat(led_all(across(square), rows, prime)) for rows in joins]


def met_by(prime, joins, square, led):
    """square joined, half by half, to the square of which led is the firsts_joined."""
    size = len(joins)
    # met[b] has at d * size + m the number at m, the first halves being done, for the second halves b and d.
    met = led_all(across(square), led, prime)
    pairs = [flat([row[m::size] for row in met]) for m in range(size)]
    return led_all(pairs, flat(joins), prime)


def squares_met(prime, joins, first, second):
    """Two squares joined half by half: first halves to first ones, second halves to second ones."""
    return met_by(prime, joins, first, firsts_joined(prime, joins, second))


def halves_met(prime, joins, square):
    """The sum of square[j][k] times thing j joined to thing k."""
    return combined(flat(square), flat(joins), prime)


def counts_to_one(prime, counts, one):
    """The map that leads each thing to its count times one."""
    return rows_paired(prime, counts, one)


def maps_convolved(prime, splits, joins, first, second):
    """The map to what each split becomes, first halves led by first, second ones by second, and then joined."""
    return led_all([flat(square) for square in splits], all_joined(prime, joins, first, second), prime)


def map_convolved_back(prime, splits, counts, joins, one, first):
    """The map that, convolved with first, leads each thing to its count times one; None if there is none.

    Maps are convolved as things are joined, in any grouping, and there are finitely many. So some
    sum of multiples of the map to one, first, first twice, .. is 0, and first can be convolved back
    exactly if there is such a sum that has the map to one once: all the others have a factor first.
    """
    powers = [counts_to_one(prime, counts, one)]
    sums = []
    while not sums:
        many = len(powers)
        for _ in range(many):
            powers.append(maps_convolved(prime, splits, joins, powers[-1], first))
        sums = kernel([flat(rows) for rows in powers], prime)
    if sums[0][0] == 0:
        return None
    numbers = [-number for number in sums[0][1:]]
    return folded(combined(numbers, [flat(rows) for rows in powers[:-1]], prime), len(joins))


def joined_span(prime, joins, makers, tidy):
    """The tidy list of all that joining makers, as often as one likes, ahead of a tidy list's things makes."""
    more = tidy_list(tidy + all_joined(prime, joins, makers, tidy), prime)
    while len(more) > len(tidy):
        tidy = more
        more = tidy_list(tidy + all_joined(prime, joins, makers, tidy), prime)
    return tidy
