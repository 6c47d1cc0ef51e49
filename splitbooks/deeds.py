"""Deeds: what they make of a splitbook, and of things and rows of it that are led along."""

from splitbooks.bases import beside, in_basis, joins_turned, other_way, splits_turned
from splitbooks.doubles import double
from splitbooks.linear import across, flat, inverse, led_all
from splitbooks.starts import book_of_start, is_worded, start_kept
from splitbooks.tables import rows_paired
from splitbooks.twists import twisted
from splitbooks.values import is_listing, is_number_within, is_square, rows_of

LENGTHS = (("other", 1), ("joins", 1), ("splits", 1), ("double", 1), ("basis", 2), ("twist", 2), ("beside", 2))
MOST_ROWS = 16


def is_deed_of_rows(value):
    """Whether value is a deed without a start: a word alone, or a word and a square of a size from 1 to 16."""
    if not is_worded(value, LENGTHS) or value[0] == "beside":
        return False
    if len(value) == 1:
        return True
    rows = value[1]
    return is_listing(rows) and is_number_within(len(rows), 1, MOST_ROWS) and is_square(rows, len(rows))


def is_beside(value):
    """Whether value is a tuple of the word beside and of what may be a start."""
    return is_worded(value, LENGTHS) and value[0] == "beside"


def deed_kept(deed, prime):
    """A deed that is found right, with all its lists as tuples and the numbers of its rows modulo the prime."""
    if deed[0] == "beside":
        return (deed[0], start_kept(deed[1]))
    if len(deed) == 2:
        return (deed[0], rows_of(deed[1], prime))
    return deed


def started_for(deed):
    """The splitbook that a deed puts beside another one; None if it puts none there."""
    return book_of_start(deed[1]) if deed[0] == "beside" else None


def book_done(book, deed, more):
    """What a deed makes of a splitbook, more being started_for it; what it raises if it cannot be done."""
    word = deed[0]
    if word == "other":
        return other_way(book)
    if word == "joins":
        return joins_turned(book)
    if word == "splits":
        return splits_turned(book)
    if word == "double":
        return double(book)
    if word == "basis":
        return in_basis(book, deed[1])
    if word == "twist":
        return twisted(book, deed[1])
    return beside(book, more)


def _things_along(book, deed, more, things):
    """What things of the splitbook become by a deed that can be done."""
    prime = book.prime
    if deed[0] == "basis":
        return led_all(things, inverse(deed[1], prime), prime)
    if deed[0] == "beside":
        return tuple([flat(rows_paired(prime, thing, more.one)) for thing in things])
    if deed[0] == "double":
        return tuple([flat(rows_paired(prime, book.counts, thing)) for thing in things])
    return tuple(things)


def _rows_along(book, deed, more, rows):
    """What rows that tell of things of the splitbook become by a deed that can be done."""
    prime = book.prime
    if deed[0] == "basis":
        return led_all(rows, across(deed[1]), prime)
    if deed[0] == "beside":
        return tuple([flat(rows_paired(prime, row, more.counts)) for row in rows])
    if deed[0] == "double":
        return tuple([flat(rows_paired(prime, book.one, row)) for row in rows])
    return tuple(rows)


def led_along(book, deed, more, kind, rows):
    """The pair of a kind, "thing" or "row", and of what rows of this kind become by a deed that can be done."""
    led = _things_along(book, deed, more, rows) if kind == "thing" else _rows_along(book, deed, more, rows)
    if deed[0] != "other":
        return kind, led
    return "row" if kind == "thing" else "thing", led
