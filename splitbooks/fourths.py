"""The back, four times, by two leaders; how often it takes to come round."""

from splitbooks.checks import need_book
from splitbooks.forms import swallowing_row
from splitbooks.joiners import Joiner, led_behind
from splitbooks.linear import across, combined, led_all, plain
from splitbooks.swallowed import seconds_told, shift_row, swallowed_left
from splitbooks.tables import row_counted


def rows_leader(book):
    """The thing by which the swallowing row, told of second halves, multiplies the first ones."""
    need_book(book)
    # The row tells 1 of the thing swallowed left.
    return seconds_told(book, swallowing_row(book), swallowed_left(book))


def fourth_by_leaders(book):
    """The map to g, what the shift row leaves of the middle of three parts, and the back of g, joined."""
    need_book(book)
    prime = book.prime
    shift = shift_row(book)
    leader = rows_leader(book)
    of_back = [row_counted(prime, shift, row) for row in book.back]
    # What is left once the first part is told of its back, and once the third part is told.
    firsts = [combined(of_back, square, prime) for square in book.splits]
    thirds = [combined(shift, across(square), prime) for square in book.splits]
    middles = led_all(firsts, thirds, prime)
    ahead = Joiner(prime, book.joins).leader(leader)
    behind = led_behind(prime, book.joins, combined(leader, book.back, prime))
    return led_all(led_all(middles, ahead, prime), behind, prime)


def back_order(book):
    """The least number from 1 on of backs, one after the other, that lead each thing to itself."""
    need_book(book)
    rows = book.back
    many = 1
    while rows != plain(book.size):
        rows = led_all(rows, book.back, book.prime)
        many = many + 1
    return many


def _rounds(prime, leader, row, one):
    """The least number of factors row whose product is one; leader puts one more factor."""
    found = row
    many = 1
    while found != one:
        found = combined(found, leader, prime)
        many = many + 1
    return many


def leader_orders(book):
    """How many factors of the rows' leader are one, and how many of the shift row, read the other way."""
    need_book(book)
    prime = book.prime
    leader = rows_leader(book)
    shift = shift_row(book)
    behind = led_behind(prime, book.joins, leader)
    # Read the other way, the shift row ahead of a row tells of first halves.
    ahead = across([combined(shift, square, prime) for square in book.splits])
    return _rounds(prime, behind, leader, book.one), _rounds(prime, ahead, shift, book.counts)
