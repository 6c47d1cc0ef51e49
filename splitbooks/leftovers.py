"""What is lost if things of a span count as their counts, mates of side spans, and splitbooks of what is left."""

from splitbooks.books import Splitbook
from splitbooks.checks import need_book
from splitbooks.errors import BadInner, BadStay
from splitbooks.fading import lot_of
from splitbooks.freeing import side_of_any
from splitbooks.idempotents import at_places
from splitbooks.inner import book_within, inner_of, need_side, rows_shared, span_of
from splitbooks.linear import (
    across, beyond_map, combined, down_map, first_place, flat, halves_led, led_all, places_left, tidy_list)
from splitbooks.spans import SpanGrower, span_fault
from splitbooks.stairs import kernel
from splitbooks.tables import row_counted


def _lost(book, joins, tidy):
    """The tidy list of what all things are joined to, behind them things of a span less their counts times one."""
    prime = book.prime
    less = [combined([1, -row_counted(prime, book.counts, row)], [row, book.one], prime) for row in tidy]
    return lot_of(prime, joins, less)


def lost_left(book, things):
    """The tidy list of all x joined to a less the count of a times one, a of a side span."""
    need_book(book)
    return _lost(book, book.joins, side_of_any(book, things))


def lost_right(book, things):
    """The tidy list of all a less the count of a times one, joined to x, a of a side span."""
    need_book(book)
    return _lost(book, across(book.joins), side_of_any(book, things))


def unshifted(book, things, side):
    """The tidy list of the things that split into themselves and one, but for pairs with a half of the span."""
    need_book(book)
    tidy = span_of(book, things)
    need_side(side)
    prime = book.prime
    beyond = beyond_map(tidy, book.size, prime)
    one = combined(book.one, beyond, prime)
    rows = []
    for at, square in enumerate(book.splits):
        # Side 0 is side 1 with halves exchanged.
        halves = led_all(square if side == 1 else across(square), beyond, prime)
        less = [combined([1, -1], [row, one], prime) if place == at else row for place, row in enumerate(halves)]
        rows.append(flat(less))
    return kernel(rows, prime)


def mate(book, things, side):
    """The tidy list of the rows that tell 0 of all that a side span loses: a side span of the other way."""
    need_book(book)
    tidy = span_of(book, things)
    need_side(side)
    fault = span_fault(book, tidy, (side,))
    if fault is not None:
        raise BadInner(fault)
    lost = _lost(book, book.joins if side == 1 else across(book.joins), tidy)
    return kernel([[row[place] for row in lost] for place in range(book.size)], book.prime)


def stays_lost(book, tidy):
    """What an inner span loses, if that is the same on both sides, so that the span stays; None if it does not."""
    lost = _lost(book, book.joins, tidy)
    return lost if lost == _lost(book, across(book.joins), tidy) else None


def lost_if_stays(book, tidy):
    """What an inner span loses; BadStay unless it stays."""
    lost = stays_lost(book, tidy)
    if lost is None:
        raise BadStay("an inner span that stays is wanted")
    return lost


def stays(book, things):
    """Whether an inner span stays."""
    need_book(book)
    return stays_lost(book, inner_of(book, things)) is not None


def book_left(book, lost):
    """The splitbook of what is left if the rows of the tidy list lost are 0."""
    prime = book.prime
    places = places_left(lost, book.size)
    down = down_map(lost, book.size, prime)
    joins = [led_all([book.joins[i][j] for j in places], down, prime) for i in places]
    splits = [halves_led(book.splits[i], down, down, prime) for i in places]
    return Splitbook(prime, joins, combined(book.one, down, prime), splits, at_places(book.counts, places))


def left_by(book, things):
    """The splitbook of what is left by an inner span that stays."""
    need_book(book)
    return book_left(book, lost_if_stays(book, inner_of(book, things)))


def leading_to_left(book, things):
    """The map that leads each thing to what it becomes in what is left by an inner span that stays."""
    need_book(book)
    return down_map(lost_if_stays(book, inner_of(book, things)), book.size, book.prime)


def told_within(tidy, rows):
    """The rows, sums of multiples of those of a tidy list, as things of the splitbook that has these as its things."""
    places = [first_place(row) for row in tidy]
    return [at_places(row, places) for row in rows]


def together_fit(book, things, more):
    """What is left of a second inner span by what it shares with one that stays, and the map to what is left of both.

    The map leads it to what is left by the first span in the least inner span of both.
    """
    need_book(book)
    first = inner_of(book, things)
    lost_if_stays(book, first)
    second = inner_of(book, more)
    shared = rows_shared(book.prime, first, second, book.size)
    within = book_within(book, second)
    lost = lost_if_stays(within, told_within(second, shared))
    both = SpanGrower(book).grown(tidy_list(first + second, book.prime))
    around = book_within(book, both)
    down = down_map(lost_if_stays(around, told_within(both, first)), around.size, book.prime)
    rows = told_within(both, [second[place] for place in places_left(lost, within.size)])
    return book_left(within, lost), led_all(rows, down, book.prime)
