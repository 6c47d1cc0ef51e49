"""The first place where tables, whose numbers are all from 0 to prime - 1, are no splitbook.

Each function takes for granted that the functions above it in the list of point 11 found nothing.
"""

from splitbooks.linear import across, combined, flat, folded, is_sum_of, led_all, plain, tidy_list
from splitbooks.tables import (
    firsts_joined, joined_span, map_convolved_back, met_by, row_counted, row_split, rows_joined, rows_paired)


def joins_fault(prime, joins):
    """("joins", i, j, k) for the least three things that are joined unlike in both ways, or None."""
    size = len(joins)
    rows = flat(joins)
    # At i * size + j: i joined to j, and this joined to each k.
    first = led_all(rows, [flat(square) for square in joins], prime)
    # At j * size + k: each i joined to what j joined to k is.
    last = led_all(rows, [flat([square[m] for square in joins]) for m in range(size)], prime)
    first = [folded(row, size) for row in first]
    last = [folded(row, size) for row in last]
    for i in range(size):
        for j in range(size):
            for k in range(size):
                if first[i * size + j][k] != last[j * size + k][i]:
                    return ("joins", i, j, k)
    return None


def one_fault(prime, joins, one):
    """("one", i) for the least thing that one, joined to it from some side, changes, or None."""
    for i, thing in enumerate(plain(len(joins))):
        if rows_joined(prime, joins, one, thing) != thing or rows_joined(prime, joins, thing, one) != thing:
            return ("one", i)
    return None


def splits_fault(prime, splits):
    """("splits", i) for the least thing whose halves split once more into unlike triples, or None."""
    flats = [flat(square) for square in splits]
    for i, square in enumerate(splits):
        firsts = led_all(across(square), flats, prime)
        seconds = led_all(square, flats, prime)
        if flat(across(firsts)) != flat(seconds):
            return ("splits", i)
    return None


def counts_fault(prime, splits, counts):
    """("counts", i) for the least thing that is not left once halves of its split are counted, or None."""
    for i, thing in enumerate(plain(len(splits))):
        firsts = combined(counts, splits[i], prime)
        seconds = combined(counts, across(splits[i]), prime)
        if firsts != thing or seconds != thing:
            return ("counts", i)
    return None


def _both_fault_of(prime, joins, splits, counts, i, led):
    """The least ("both", i, j) of this i, or None; led tells firsts_joined of each split."""
    for j in range(len(joins)):
        row = joins[i][j]
        if row_counted(prime, counts, row) != counts[i] * counts[j] % prime:
            return ("both", i, j)
        if row_split(prime, splits, row) != met_by(prime, joins, splits[i], led[j]):
            return ("both", i, j)
    return None


def both_fault(prime, joins, one, splits, counts):
    """("both",) or the least ("both", i, j) where splits or counts do not go with joins, or None."""
    if row_split(prime, splits, one) != rows_paired(prime, one, one) or row_counted(prime, counts, one) != 1:
        return ("both",)
    led = [firsts_joined(prime, joins, square) for square in splits]
    good = []
    known = tidy_list([one], prime)
    for i, thing in enumerate(plain(len(joins))):
        # Where two things go with all others, so does what they are joined to: there is no need to look.
        if not is_sum_of(thing, known, prime):
            fault = _both_fault_of(prime, joins, splits, counts, i, led)
            if fault is not None:
                return fault
            good.append(thing)
            known = joined_span(prime, joins, good, known)
    return None


def first_fault(prime, joins, one, splits, counts):
    """The first of these that is there, or None; it does not look for the back."""
    fault = joins_fault(prime, joins)
    if fault is None:
        fault = one_fault(prime, joins, one)
    if fault is None:
        fault = splits_fault(prime, splits)
    if fault is None:
        fault = counts_fault(prime, splits, counts)
    if fault is None:
        fault = both_fault(prime, joins, one, splits, counts)
    return fault


def back_of(prime, joins, one, splits, counts):
    """The back of tables in which first_fault finds nothing; None if there is none."""
    return map_convolved_back(prime, splits, counts, joins, one, plain(len(joins)))
