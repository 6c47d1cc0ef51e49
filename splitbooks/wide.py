"""Doings that are wide: the maps that smash tables make of things of the table are as many as there can be."""

from splitbooks.alongs import along_differences
from splitbooks.axes import cube_flat, moved, summed
from splitbooks.doingtables import doing_of, need_few_in_table
from splitbooks.errors import BadRow, TooMany
from splitbooks.joiners import led_behind
from splitbooks.linear import flat, folded, plain, tidy_list
from splitbooks.stairs import Stairs, kernel, solved
from splitbooks.swallowed import multiplied_by, swallowed_left
from splitbooks.tables import row_split, rows_paired
from splitbooks.values import is_row, row_of

MOST_KEPT = 8


def _rows_of_pairs(book, table, doing):
    """The rows of pair_rows for a doing that is taken."""
    many = book.size
    size = table.size
    # At i, b, a, c: a joined to what i leads b to.
    joins = moved(cube_flat(table.joins), [size] * 3, [1, 0, 2])
    led = summed(cube_flat(doing), joins, size, book.prime)
    return folded(moved(led, [many, size, size, size], [2, 1, 3, 0]), size * many)


def pair_rows(book, table, doing):
    """The list of the rows, for all a and b, of what a is joined to of all that things of the book lead b to."""
    doing = doing_of(book, table, doing)
    return list(_rows_of_pairs(book, table, doing))


def _rank(prime, rows):
    """How many of the rows, at most, are independent."""
    stairs = Stairs(prime, len(rows[0]))
    for row in rows:
        if not stairs.is_full():
            stairs.taken(row)
    return len(stairs.places)


def wide_rank(book, table, doing):
    """How many of the pair_rows, at most, are independent."""
    doing = doing_of(book, table, doing)
    return _rank(book.prime, _rows_of_pairs(book, table, doing))


def is_wide(book, table, doing):
    """Whether the pair_rows make all rows of their size."""
    return wide_rank(book, table, doing) == table.size * book.size


def _led_through(book, table, doing):
    """For all a and b: (a beside one) joined to (one beside t) joined to (b beside one), t being swallowed left."""
    prime = book.prime
    many = book.size
    halves = row_split(prime, book.splits, swallowed_left(book))
    # The first halves of t lead b, the second ones stand beside.
    numbers = summed(flat(_rows_of_pairs(book, table, doing)), flat(halves), many, prime)
    return list(folded(numbers, table.size * many))


def through_swallowed(book, table, doing):
    """The tidy list, in the smash table, of what goes through the thing that is swallowed left."""
    doing = doing_of(book, table, doing)
    need_few_in_table(table.size * book.size)
    return tidy_list(_led_through(book, table, doing), book.prime)


def ways_through(book, table, doing):
    """Pairs of things that make the one of the smash table through the swallowed thing; None if not wide."""
    doing = doing_of(book, table, doing)
    need_few_in_table(table.size * book.size)
    prime = book.prime
    size = table.size
    rows = _led_through(book, table, doing)
    if _rank(prime, rows) < size * book.size:
        return None
    numbers = solved(rows, flat(rows_paired(prime, table.one, book.one)), prime)
    return [(thing, row) for thing, row in zip(plain(size), folded(numbers, size)) if any(row)]


def smash_map(book, table, doing, thing):
    """The map that leads b to a joined to what x leads b to, for a beside x; for sums likewise."""
    doing = doing_of(book, table, doing)
    need_few_in_table(table.size * book.size)
    if not is_row(thing, table.size * book.size):
        raise BadRow("a thing of the smash table is wanted")
    prime = book.prime
    many = book.size
    size = table.size
    # At i, m, c: the things of the table that stand beside i, joined to m. Then at i, m, b, as i leads b.
    numbers = moved(row_of(thing, prime), [size, many], [1, 0])
    joined = summed(numbers, cube_flat(table.joins), size, prime)
    leads = moved(cube_flat(doing), [many, size, size], [1, 0, 2])
    return folded(summed(leads, joined, many * size, prime), size)


def kept_maps(book, table, doing):
    """The tidy list of the maps, as rows, that lead what is joined to unmoved things to what is joined to these."""
    doing = doing_of(book, table, doing)
    if table.size > MOST_KEPT:
        raise TooMany(MOST_KEPT)
    prime = book.prime
    behind = [led_behind(prime, table.joins, row) for row in multiplied_by(prime, doing, book.counts)]
    return kernel(along_differences(prime, behind, behind), prime)
