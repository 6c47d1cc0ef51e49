"""When a splitbook falls apart into simple parts; traces; the walls between its parts."""

from splitbooks.checks import map_of, need_book, things_of
from splitbooks.fading import lot_of
from splitbooks.forms import passing_square, row_form, swallowing_row
from splitbooks.idempotents import at_places, central_rows, least_parts
from splitbooks.joiners import Joiner
from splitbooks.linear import across, combined, cube_led, first_place, flat, led_all, trace_of
from splitbooks.powers import number_undone
from splitbooks.stairs import solved
from splitbooks.swallowed import multiplied_by, swallowed_left
from splitbooks.tables import halves_met, row_counted, turned_cube
from splitbooks.values import is_square, rows_of


def falls_apart(book):
    """Whether only 0 is fading."""
    need_book(book)
    # The count of the thing swallowed left tells it.
    return row_counted(book.prime, book.counts, swallowed_left(book)) != 0


def is_parting_square(book, thing):
    """Whether thing, any value, is a square whose halves joined are one, and which things pass from left to right."""
    need_book(book)
    if not is_square(thing, book.size):
        return False
    prime = book.prime
    square = rows_of(thing, prime)
    if halves_met(prime, book.joins, square) != book.one:
        return False
    # Thing i joined to first halves, and second halves joined to thing i, both at i, first half, second half.
    ahead = [led_all(across(rows), square, prime) for rows in book.joins]
    behind = [led_all(square, rows, prime) for rows in across(book.joins)]
    return ahead == behind


def parting_square(book):
    """The passing square divided by the count of the thing swallowed left; None if this is 0."""
    need_book(book)
    count = row_counted(book.prime, book.counts, swallowed_left(book))
    if count == 0:
        return None
    undone = number_undone(count, book.prime)
    return tuple([tuple([undone * number % book.prime for number in row]) for row in passing_square(book)])


def left_keeper(book, things):
    """A sum of rows of left_lot that leaves each of these rows, put ahead of it; None if there is none."""
    need_book(book)
    prime = book.prime
    rows = lot_of(prime, book.joins, things_of(book, things))
    if not rows:
        return (0,) * book.size
    places = [first_place(row) for row in rows]
    joined = cube_led(book.joins, rows, rows, None, prime)
    # What each row is to become; and what it becomes with each row behind it.
    wanted = flat([at_places(row, places) for row in rows])
    behind = [flat([at_places(line[at], places) for line in joined]) for at in range(len(rows))]
    numbers = solved(behind, wanted, prime)
    return None if numbers is None else combined(numbers, rows, prime)


def map_trace(book, rows):
    """The sum of rows[k][k] for all k, modulo the prime."""
    need_book(book)
    return trace_of(book.prime, map_of(book, book, rows))


def trace_by_halves(book, rows):
    """What the swallowing row tells of the back of second halves joined to what rows leads the first ones to."""
    need_book(book)
    rows = map_of(book, book, rows)
    prime = book.prime
    # At a, what is told of each thing behind the backs of the second halves that stand beside the first half a.
    told = led_all(passing_square(book), row_form(book, swallowing_row(book)), prime)
    return sum([row_counted(prime, row, line) for row, line in zip(told, rows)]) % prime


def falls_apart_both_ways(book):
    """Whether the splitbook and its other way fall apart."""
    need_book(book)
    if not falls_apart(book):
        return False
    row = multiplied_by(book.prime, turned_cube(book.splits), book.one)[0]
    return row_counted(book.prime, row, book.one) != 0


def middle(book):
    """The tidy list of the things that can be joined to all others in either sequence."""
    need_book(book)
    return central_rows(book.prime, book.joins)


def walls_of(book):
    """The ascending list of the least walls."""
    need_book(book)
    joiner = Joiner(book.prime, book.joins)
    return sorted(least_parts(joiner, central_rows(book.prime, book.joins), book.one))
