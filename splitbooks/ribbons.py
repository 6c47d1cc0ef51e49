"""Weighers and ribbons: what makes of exchanges numbers that hang on the braid alone."""

from splitbooks.checks import need_book
from splitbooks.crossings import crossing_of
from splitbooks.errors import BadWeigher
from splitbooks.joiners import Joiner, led_behind, row_undone
from splitbooks.linear import across, combined, led_all
from splitbooks.selfsplit import is_selfsplit, selfsplit_things
from splitbooks.strands import leader_of
from splitbooks.tables import row_counted, row_split, rows_joined, rows_paired, squares_met
from splitbooks.values import is_row, row_of


def _weighs(book, leader, thing):
    """Whether a selfsplit thing is a weigher; leader is the crossing_thing."""
    prime = book.prime
    back = combined(leader, book.back, prime)
    square = rows_joined(prime, book.joins, thing, thing)
    if rows_joined(prime, book.joins, square, back) != leader:
        return False
    twice = led_all(book.back, book.back, prime)
    ahead = Joiner(prime, book.joins).leader(thing)
    return ahead == led_all(twice, led_behind(prime, book.joins, thing), prime)


def is_weigher(book, square, thing):
    """Whether thing, any value, is a weigher of the crossing."""
    need_book(book)
    square = crossing_of(book, square)
    if not is_selfsplit(book, thing):
        return False
    return _weighs(book, leader_of(book, square), row_of(thing, book.prime))


def _weighers_of(book, leader):
    """The ascending list of all weighers; leader is the crossing_thing."""
    return sorted([thing for thing in selfsplit_things(book) if _weighs(book, leader, thing)])


def weighers(book, square):
    """The ascending list of all weighers of a crossing."""
    need_book(book)
    square = crossing_of(book, square)
    return _weighers_of(book, leader_of(book, square))


def is_ribbon(book, square, thing):
    """Whether thing, any value, is a ribbon of the crossing."""
    need_book(book)
    square = crossing_of(book, square)
    if not is_row(thing, book.size):
        return False
    prime = book.prime
    row = row_of(thing, prime)
    if row_counted(prime, book.counts, row) != 1 or combined(row, book.back, prime) != row:
        return False
    if Joiner(prime, book.joins).leader(row) != led_behind(prime, book.joins, row):
        return False
    leader = leader_of(book, square)
    back = combined(leader, book.back, prime)
    if rows_joined(prime, book.joins, row, row) != rows_joined(prime, book.joins, leader, back):
        return False
    met = squares_met(prime, book.joins, row_split(prime, book.splits, row), across(square))
    return squares_met(prime, book.joins, met, square) == rows_paired(prime, row, row)


def ribbon_by(book, leader, weigher):
    """The ribbon of a weigher that is taken; leader is the crossing_thing."""
    undone = row_undone(book.prime, book.joins, book.one, weigher)
    return rows_joined(book.prime, book.joins, leader, undone)


def weigher_of(book, square, value):
    """The weigher, of a crossing that is taken, that value is; BadWeigher if it is none."""
    if not is_selfsplit(book, value) or not _weighs(book, leader_of(book, square), row_of(value, book.prime)):
        raise BadWeigher("a weigher of the crossing is wanted")
    return row_of(value, book.prime)


def ribbon_of(book, square, weigher):
    """The ribbon of a weigher: the crossing_thing joined to what undoes the weigher."""
    need_book(book)
    square = crossing_of(book, square)
    weigher = weigher_of(book, square, weigher)
    return ribbon_by(book, leader_of(book, square), weigher)


def ribbons(book, square):
    """The ascending list of all ribbons of a crossing."""
    need_book(book)
    square = crossing_of(book, square)
    leader = leader_of(book, square)
    # Each ribbon comes from just one weigher.
    return sorted([ribbon_by(book, leader, thing) for thing in _weighers_of(book, leader)])
