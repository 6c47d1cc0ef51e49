"""Inner splitbooks: spans that have one, what their things are joined to and what these split into."""

from splitbooks.books import Splitbook
from splitbooks.checks import need_book, need_few, things_of
from splitbooks.errors import BadInner, BadNumber
from splitbooks.idempotents import at_places
from splitbooks.linear import beyond_map, first_place, led_all, tidy_list
from splitbooks.spans import SpanGrower, span_fault
from splitbooks.stairs import kernel
from splitbooks.tables import all_joined, row_counted, row_split
from splitbooks.values import is_number_within

MOST_ROWS = 729
BOTH_SIDES = (0, 1)


def span_of(book, things):
    """The tidy list of the span of things; BadRow if they are no list of things."""
    return tidy_list(things_of(book, things), book.prime)


def need_side(side):
    """BadNumber("side") unless side is the number 0 or 1."""
    if not is_number_within(side, 0, 1):
        raise BadNumber("side")


def inner_of(book, things):
    """The tidy list of an inner span; BadRow, or BadInner with what inner_fault tells."""
    tidy = span_of(book, things)
    fault = span_fault(book, tidy, BOTH_SIDES)
    if fault is not None:
        raise BadInner(fault)
    return tidy


def inner_fault(book, things):
    """None if the span of things is inner, otherwise a tuple that tells the first wrong place."""
    need_book(book)
    return span_fault(book, span_of(book, things), BOTH_SIDES)


def side_fault(book, things, side):
    """None if the span of things is a side span of this side, otherwise a tuple that tells the first wrong place."""
    need_book(book)
    tidy = span_of(book, things)
    need_side(side)
    return span_fault(book, tidy, (side,))


def inner_by(book, things):
    """The tidy list of the least inner span that has all of the things."""
    need_book(book)
    return SpanGrower(book).by_sides(span_of(book, things), BOTH_SIDES)


def side_by(book, things, side):
    """The tidy list of the least side span of this side that has all of the things."""
    need_book(book)
    tidy = span_of(book, things)
    need_side(side)
    return SpanGrower(book).by_sides(tidy, (side,))


def rows_shared(prime, one, other, size):
    """The tidy list of the rows that are sums of multiples of each of two tidy lists."""
    if not one or not other:
        return []
    numbers = kernel(led_all(one, beyond_map(other, size, prime), prime), prime)
    return tidy_list(led_all(numbers, one, prime), prime)


def shared_span(book, things, more):
    """The tidy list of the things that both spans have."""
    need_book(book)
    one = span_of(book, things)
    return rows_shared(book.prime, one, span_of(book, more), book.size)


def book_within(book, tidy):
    """The splitbook whose things stand for the rows of the tidy list of an inner span."""
    prime = book.prime
    # A sum of multiples of tidy rows has its numbers at their first places.
    places = [first_place(row) for row in tidy]
    joins = [[at_places(line, places) for line in lines] for lines in all_joined(prime, book.joins, tidy, tidy)]
    splits = []
    for row in tidy:
        square = row_split(prime, book.splits, row)
        splits.append([at_places(square[place], places) for place in places])
    counts = [row_counted(prime, book.counts, row) for row in tidy]
    return Splitbook(prime, joins, at_places(book.one, places), splits, counts)


def inner_book(book, things):
    """The splitbook of an inner span, whose things stand for the rows of its tidy list."""
    need_book(book)
    return book_within(book, inner_of(book, things))


def things_up_to_one(book):
    """One thing for each lot of things, but multiples of one, that differ by multiples of one and by a factor."""
    prime = book.prime
    begun = first_place(book.one)
    rows = []
    # The first number that is not 0 is 1, where one begins it is 0.
    for place in range(book.size):
        if place != begun:
            tails = [(0,) * place + (1,)]
            for at in range(place + 1, book.size):
                numbers = [0] if at == begun else list(range(prime))
                tails = [tail + (number,) for tail in tails for number in numbers]
            rows.extend(tails)
    return rows


def spans_found(book, sides):
    """The list of all spans that are side spans of these sides, by their rows, few ones first."""
    grower = SpanGrower(book)
    least = {}
    for thing in things_up_to_one(book):
        least[tuple(grower.by_sides([thing], sides))] = True
    found = {tuple(grower.grown([])): True}
    waiting = list(least)
    # Each span is put together of such least spans of one thing.
    while waiting:
        span = waiting.pop()
        if span not in found:
            found[span] = True
            for other in least:
                both = tidy_list(span + other, book.prime)
                if len(both) > len(span):
                    waiting.append(tuple(grower.grown(both)))
    ordered = sorted([(len(rows), rows) for rows in found])
    return [list(rows) for _, rows in ordered]


def inner_spans(book):
    """The list of the tidy lists of all inner spans, those with fewer rows first, ascending where these are as many."""
    need_book(book)
    need_few(book.prime, book.size, MOST_ROWS)
    return spans_found(book, BOTH_SIDES)


def side_spans(book, side):
    """The list of the tidy lists of all side spans of this side, in the same sequence."""
    need_book(book)
    need_side(side)
    need_few(book.prime, book.size, MOST_ROWS)
    return spans_found(book, (side,))
