"""What is done with the things of a splitbook, and with maps between splitbooks."""

from splitbooks.backs import map_back
from splitbooks.checks import map_of, need_book, need_two_books, square_of, thing_of, things_of
from splitbooks.linear import combined, inverse
from splitbooks.tables import (
    counts_to_one, halves_met, maps_convolved, row_counted, row_split, rows_joined, squares_met)


def joined(book, first, second):
    """The thing to which two things, in this sequence, are joined."""
    need_book(book)
    first = thing_of(book, first)
    second = thing_of(book, second)
    return rows_joined(book.prime, book.joins, first, second)


def joined_all(book, things):
    """The thing to which all things are joined from left to right; one for none."""
    need_book(book)
    total = book.one
    for thing in things_of(book, things):
        total = rows_joined(book.prime, book.joins, total, thing)
    return total


def split(book, thing):
    """The square of numbers at the halves of the split of a thing."""
    need_book(book)
    return row_split(book.prime, book.splits, thing_of(book, thing))


def counted(book, thing):
    """The count of a thing."""
    need_book(book)
    return row_counted(book.prime, book.counts, thing_of(book, thing))


def backed(book, thing):
    """What the back leads a thing to."""
    need_book(book)
    return combined(thing_of(book, thing), book.back, book.prime)


def squares_joined(book, first, second):
    """Two squares joined half by half: first halves to first ones, second halves to second ones."""
    need_book(book)
    first = square_of(book, first)
    second = square_of(book, second)
    return squares_met(book.prime, book.joins, first, second)


def halves_joined(book, square):
    """The sum of square[j][k] times thing j joined to thing k."""
    need_book(book)
    return halves_met(book.prime, book.joins, square_of(book, square))


def convolved(book, other, first, second):
    """The map to what splits of book become, first halves led by first, second ones by second, joined in other."""
    need_two_books(book, other)
    first = map_of(book, other, first)
    second = map_of(book, other, second)
    return maps_convolved(book.prime, book.splits, other.joins, first, second)


def unit_map(book, other):
    """The map that leads each thing of book to its count times one of other."""
    need_two_books(book, other)
    return counts_to_one(book.prime, book.counts, other.one)


def convolved_back(book, other, first):
    """The map that, convolved with first in either sequence, is unit_map; None if there is none."""
    need_two_books(book, other)
    first = map_of(book, other, first)
    return map_back(book, other, first)


def back_undone(book):
    """The map that undoes the back."""
    need_book(book)
    return inverse(book.back, book.prime)
