"""Things that split into themselves twice."""

from splitbooks.checks import need_book
from splitbooks.selves import selfsplits
from splitbooks.tables import all_joined, row_counted, row_split, rows_paired
from splitbooks.values import is_row, row_of


def is_selfsplit(book, thing):
    """Whether thing, any value, is a selfsplit thing of book."""
    need_book(book)
    if not is_row(thing, book.size):
        return False
    prime = book.prime
    row = row_of(thing, prime)
    return row_counted(prime, book.counts, row) == 1 and row_split(
        prime, book.splits, row) == rows_paired(prime, row, row)


def selfsplit_things(book):
    """The list of all selfsplit things: one first, then the others, ascending."""
    need_book(book)
    found = selfsplits(book.prime, book.splits, book.counts)
    return [book.one] + sorted([thing for thing in found if thing != book.one])


def selfsplit_group(book):
    """The table of the group that the selfsplit things make, each by its place in selfsplit_things."""
    need_book(book)
    things = selfsplit_things(book)
    place_of = {thing: place for place, thing in enumerate(things)}
    joined = all_joined(book.prime, book.joins, things, things)
    return tuple([tuple([place_of[row] for row in rows]) for rows in joined])
