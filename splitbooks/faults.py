"""The first place where tables, whose numbers are all from 0 to prime - 1, are no splitbook.

Each function takes for granted that the functions above it in the list of point 11 found nothing.
"""

from splitbooks.agreeing import Agreement
from splitbooks.grouping import Grouping
from splitbooks.linear import across, combined, flat, folded, led_all, plain
from splitbooks.powers import number_undone
from splitbooks.stairs import kernel
from splitbooks.tables import row_counted, row_split, rows_paired, turned_back_cube, turned_cube


def joined_sides(prime, cube, row):
    """The two squares of row joined to each thing, and of each thing joined to row."""
    size = len(cube)
    first = combined(row, [flat(square) for square in cube], prime)
    last = combined(row, [flat(rows) for rows in zip(*cube)], prime)
    return [folded(side, size) for side in (first, last)]


def one_fault(grouping, one):
    """("one", i) for the least thing that one, joined to it from some side, changes, or None."""
    if grouping.is_one(one):
        return None
    firsts, lasts = joined_sides(grouping.prime, grouping.cube, one)
    return ("one", least_unlike(firsts, lasts))


def counts_fault(grouping, counts):
    """("counts", i) for the least thing that is not left once halves of its split are counted, or None.

    The grouping is that of the splits, read the other way: what is counted of halves is there joined to counts.
    """
    if grouping.is_one(counts):
        return None
    firsts, lasts = joined_sides(grouping.prime, grouping.cube, counts)
    return ("counts", least_unlike(across(firsts), across(lasts)))


def least_unlike(firsts, lasts):
    """The least i for which one of the rows with the index i is not thing i; there is one."""
    for i, thing in enumerate(plain(len(firsts))):
        if firsts[i] != thing or lasts[i] != thing:
            return i
    return None


def least_unlike_split(prime, splits):
    """The least thing whose halves split once more into unlike triples; there is one."""
    flats = [flat(square) for square in splits]
    for i, square in enumerate(splits):
        firsts = led_all(across(square), flats, prime)
        seconds = led_all(square, flats, prime)
        if flat(across(firsts)) != flat(seconds):
            return i
    return None


def units_agree(grouping, splits, one, counts):
    """Whether one splits into itself twice and has the count 1, and counts of joined things are multiplied."""
    prime = grouping.prime
    if row_split(prime, splits, one) != rows_paired(prime, one, one) or row_counted(prime, counts, one) != 1:
        return False
    return grouping.told(counts) == rows_paired(prime, counts, counts)


def least_both_fault(grouping, splits, one, counts):
    """("both",) or the least ("both", i, j) where splits or counts do not go with joins; there is one."""
    prime = grouping.prime
    if row_split(prime, splits, one) != rows_paired(prime, one, one) or row_counted(prime, counts, one) != 1:
        return ("both",)
    agreement = Agreement(grouping, splits)
    # Where two things go with all others, so does what they are joined to: the least one is a maker.
    for i in grouping.makers:
        faults = []
        for j, row in enumerate(grouping.cube[i]):
            if row_counted(prime, counts, row) != counts[i] * counts[j] % prime:
                faults.append(j)
        least = agreement.fault_of(i)
        if least is not None:
            faults.append(least)
        if faults:
            return ("both", i, min(faults))
    return None


def swallowed_by(grouping, counts):
    """The tidy list of the rows that all things, ahead of them, multiply by their counts.

    The makers are enough: what multiplies by its count does so once it is joined to more of this kind.
    """
    prime = grouping.prime
    rows = []
    for k in range(grouping.size):
        row = []
        for maker in grouping.makers:
            line = list(grouping.cube[maker][k])
            line[k] = (line[k] - counts[maker]) % prime
            row.extend(line)
        rows.append(row)
    return kernel(rows, prime)


def back_told(grouping, telling, splits, one, counts):
    """The only map that may be the back of tables in which nothing else is wrong; None if there is none.

    If there is a back, just one thing, up to a number, is swallowed by all ahead of it, and just one row, read
    the other way. The back leads a thing to the sum of what the row tells of it, joined to the second halves
    of the swallowed thing, times the first halves, divided by what the row tells of the swallowed thing.
    """
    prime = grouping.prime
    things = swallowed_by(grouping, counts)
    rows = swallowed_by(telling, one)
    if len(things) != 1 or len(rows) != 1:
        return None
    number = row_counted(prime, rows[0], things[0])
    if number == 0:
        return None
    row = combined([number_undone(number, prime)], rows, prime)
    halves = row_split(prime, splits, things[0])
    return led_all(grouping.told(row), across(halves), prime)


def agreed_back(grouping, telling, splits, one, counts):
    """The last tuple that may be wrong, or None, and the back: whether splits go with joins, and are undone.

    Read the other way, joins are splits and splits are joins, and go with each other just if these do. So they
    are looked at the way that has fewer makers.
    """
    mirrored = len(telling.makers) < len(grouping.makers)
    if mirrored:
        agreement = Agreement(telling, turned_back_cube(grouping.cube))
    else:
        agreement = Agreement(grouping, splits)
    if not units_agree(grouping, splits, one, counts) or not agreement.holds():
        return least_both_fault(grouping, splits, one, counts), None
    back = back_told(grouping, telling, splits, one, counts)
    if back is None:
        return ("back",), None
    if mirrored:
        undone = agreement.undoes(across(back), one, counts)
    else:
        undone = agreement.undoes(back, counts, one)
    return (None, back) if undone else (("back",), None)


def fault_and_back(prime, joins, one, splits, counts):
    """The tuple of what_is_wrong, or None, and the back, or None if there is something wrong."""
    grouping = Grouping(prime, joins)
    fault = grouping.fault()
    if fault is not None:
        return ("joins",) + fault, None
    fault = one_fault(grouping, one)
    if fault is not None:
        return fault, None
    # Read the other way, splits join rows: what is alike in both groupings there, splits alike here.
    telling = Grouping(prime, turned_cube(splits))
    if telling.fault() is not None:
        return ("splits", least_unlike_split(prime, splits)), None
    fault = counts_fault(telling, counts)
    if fault is not None:
        return fault, None
    return agreed_back(grouping, telling, splits, one, counts)
