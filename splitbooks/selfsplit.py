"""Things that split into themselves twice."""

from splitbooks.checks import need_book
from splitbooks.linear import combined, kernel, led_all, number_undone, plain
from splitbooks.tables import row_counted, row_split, rows_joined, rows_paired
from splitbooks.values import is_row, row_of


def is_selfsplit(book, thing):
    """Whether thing, any value, is a selfsplit thing of book."""
    need_book(book)
    if not is_row(thing, book.size):
        return False
    prime = book.prime
    row = row_of(thing, prime)
    return row_counted(prime, book.counts, row) == 1 and row_split(
        prime, book.splits, row) == rows_paired(prime, row, row)


def _multiple_selfsplit(book, row):
    """The list of the selfsplit thing that is a multiple of row, or of nothing."""
    count = row_counted(book.prime, book.counts, row)
    if count == 0:
        return []
    thing = combined([number_undone(count, book.prime)], [row], book.prime)
    return [thing] if is_selfsplit(book, thing) else []


def _selfsplit_among(book, rows, place):
    """The selfsplit things among the sums of multiples of rows, which have like numbers ahead of place.

    Where the first half of its split is told its number at place, a selfsplit thing is left times
    this number. For unlike numbers the rows left so are independent: there are few to follow.
    """
    if len(rows) == 1:
        return _multiple_selfsplit(book, rows[0])
    prime = book.prime
    told = led_all(rows, [square[place] for square in book.splits], prime)
    counts = [row_counted(prime, book.counts, row) for row in rows]
    found = []
    for number in range(prime):
        asked = [combined([1, -number], [left + (row[place],), row + (count,)], prime)
                 for left, row, count in zip(told, rows, counts)]
        some = kernel(asked, prime)
        if some:
            found.extend(_selfsplit_among(book, led_all(some, rows, prime), place + 1))
    return found


def selfsplit_things(book):
    """The list of all selfsplit things: one first, then the others, ascending."""
    need_book(book)
    found = _selfsplit_among(book, plain(book.size), 0)
    return [book.one] + sorted([thing for thing in found if thing != book.one])


def selfsplit_group(book):
    """The table of the group that the selfsplit things make, each by its place in selfsplit_things."""
    need_book(book)
    things = selfsplit_things(book)
    place_of = {thing: place for place, thing in enumerate(things)}
    return tuple([tuple([place_of[rows_joined(book.prime, book.joins, first, second)] for second in things])
                  for first in things])
