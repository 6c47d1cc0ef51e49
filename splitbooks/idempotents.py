"""Rows that, joined to themselves, are themselves, in bare tables of joins."""

from splitbooks.linear import across, first_place, inverse, led_all
from splitbooks.selves import selfsplits
from splitbooks.stairs import kernel
from splitbooks.tables import turned_back_cube


def central_rows(prime, joins):
    """The tidy list of the rows that can be joined to all others in either sequence."""
    rows = []
    for k, square in enumerate(joins):
        row = []
        for line, other in zip(square, joins):
            row.extend([(number - more) % prime for number, more in zip(line, other[k])])
        rows.append(row)
    return kernel(rows, prime)


def at_places(row, places):
    """The numbers of a row at these places."""
    return tuple([row[place] for place in places])


def frobenius_kept(joiner, rows):
    """The tidy list of those sums of rows, a tidy list, of which the product of prime factors is the same again.

    The rows are such that any two are joined to a sum of them, in either sequence to the same one.
    """
    prime = joiner.prime
    places = [first_place(row) for row in rows]
    differences = []
    # Here a product of prime factors goes over sums.
    for row in rows:
        power = joiner.power(row, prime)
        differences.append([(power[place] - row[place]) % prime for place in places])
    return list(led_all(kernel(differences, prime), rows, prime))


def least_parts(joiner, rows, one):
    """The rows that, joined to themselves, are themselves, of which no further such row can be taken off.

    They are sums of rows, a tidy list as in frobenius_kept; one leaves each of these and is a sum of them.
    """
    prime = joiner.prime
    kept = frobenius_kept(joiner, rows)
    places = [first_place(row) for row in kept]
    cube = [[at_places(joiner.joined(row, other), places) for other in kept] for row in kept]
    # By rows of numbers that keep joins, each of the parts sought is told 1 by just one of them, 0 by all others.
    tellers = selfsplits(prime, turned_back_cube(cube), at_places(one, places))
    return led_all(across(inverse(tellers, prime)), kept, prime)
