"""Leadings between splitbooks, and likenesses: those that a map undoes."""

from splitbooks.checks import need_few, need_two_books
from splitbooks.linear import across, combined, cube_led, inverse
from splitbooks.powers import number_undone
from splitbooks.tables import row_counted, rows_joined
from splitbooks.values import is_map, rows_of

MOST_MAPS = 20000


def is_leading(one, other, thing):
    """Whether thing, any value, is a leading from one to other."""
    need_two_books(one, other)
    if not is_map(thing, one.size, other.size):
        return False
    prime = one.prime
    rows = rows_of(thing, prime)
    if combined(one.one, rows, prime) != other.one:
        return False
    if tuple([row_counted(prime, other.counts, row) for row in rows]) != one.counts:
        return False
    if cube_led(one.joins, None, None, rows, prime) != cube_led(other.joins, rows, rows, None, prime):
        return False
    return cube_led(one.splits, None, across(rows), rows, prime) == cube_led(other.splits, rows, None, None, prime)


def _rows_by_count(book):
    """The ascending lists of all things of book, told by their counts."""
    rows = [()]
    for _ in range(book.size):
        rows = [row + (number,) for row in rows for number in range(book.prime)]
    told = {count: [] for count in range(book.prime)}
    for row in rows:
        told[row_counted(book.prime, book.counts, row)].append(row)
    return told


def _last_place(row):
    """The place of the last number of a row that is not 0; -1 for a row of 0."""
    return max([-1] + [place for place, number in enumerate(row) if number])


def _pairs_by_last(book):
    """At k the list of the pairs of things that, with what they are joined to, reach just to thing k."""
    told = [[] for _ in range(book.size)]
    for i, square in enumerate(book.joins):
        for j, row in enumerate(square):
            told[max(i, j, _last_place(row))].append((i, j))
    return told


class LikenessSearch:
    """The search for the least likeness: things are led, in their sequence, to the least row that may do."""

    def __init__(self, one, other):
        self.one = one
        self.other = other
        self.rows_by_count = _rows_by_count(other)
        self.pairs_by_last = _pairs_by_last(one)
        self.place_of_one = _last_place(one.one)

    def choices(self, rows):
        """The ascending list of what the next thing may be led to, the ones ahead of it being led to rows."""
        at = len(rows)
        if at != self.place_of_one:
            return self.rows_by_count[self.one.counts[at]]
        # One of one is the last sum into which this thing comes, so what it is led to is told by now.
        prime = self.one.prime
        numbers = [1] + [-number for number in self.one.one[:at]]
        rest = combined(numbers, [self.other.one] + rows, prime)
        return [combined([number_undone(self.one.one[at], prime)], [rest], prime)]

    def fits(self, rows):
        """Whether joined things are led to joined ones, as far as the last one of rows tells."""
        prime = self.one.prime
        for i, j in self.pairs_by_last[len(rows) - 1]:
            if rows_joined(prime, self.other.joins, rows[i], rows[j]) != combined(self.one.joins[i][j], rows, prime):
                return False
        return True

    def least(self, rows):
        """The least likeness that begins with rows; None if there is none."""
        if len(rows) == self.one.size:
            if inverse(rows, self.one.prime) is None or not is_leading(self.one, self.other, rows):
                return None
            return tuple(rows)
        for row in self.choices(rows):
            if self.fits(rows + [row]):
                found = self.least(rows + [row])
                if found is not None:
                    return found
        return None


def likeness(one, other):
    """The least leading from one to other that a map undoes; None if there is none."""
    need_two_books(one, other)
    if one.size != other.size:
        return None
    need_few(one.prime, (one.size - 1) ** 2, MOST_MAPS)
    return LikenessSearch(one, other).least([])


def are_alike(one, other):
    """Whether there is a likeness from one to other."""
    return likeness(one, other) is not None
