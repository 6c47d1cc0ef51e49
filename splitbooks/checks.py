"""Refusals that many functions share, and what is handed in as tuples of numbers from 0 to prime - 1."""

from splitbooks.books import Splitbook
from splitbooks.errors import BadBasis, BadBook, BadMap, BadRow, BadShape, BadSquare, TooMany
from splitbooks.linear import inverse
from splitbooks.powers import is_power_above
from splitbooks.values import is_map, is_row, is_row_list, is_square, row_of, rows_of


def need_book(book):
    """BadBook(None) unless a Splitbook is given."""
    if not isinstance(book, Splitbook):
        raise BadBook(None)


def need_two_books(one, other):
    """BadBook(None) unless two Splitbooks are given, BadShape("prime") unless their primes are one."""
    need_book(one)
    need_book(other)
    if one.prime != other.prime:
        raise BadShape("prime")


def need_few(number, exponent, most):
    """TooMany(most) if the product of exponent factors number, a number from 2 on, is above most."""
    if is_power_above(number, exponent, most):
        raise TooMany(most)


def thing_of(book, value):
    """The thing of book that value is; BadRow if it is none."""
    if not is_row(value, book.size):
        raise BadRow("a thing of the splitbook is wanted")
    return row_of(value, book.prime)


def things_of(book, value):
    """The things of book that value lists; BadRow if it is no list of things."""
    if not is_row_list(value, book.size):
        raise BadRow("a list of things of the splitbook is wanted")
    return rows_of(value, book.prime)


def square_of(book, value):
    """The square of the size of book that value is; BadSquare if it is none."""
    if not is_square(value, book.size):
        raise BadSquare("a square of the size of the splitbook is wanted")
    return rows_of(value, book.prime)


def map_of(one, other, value):
    """The map from one.size to other.size that value is; BadMap if it is none."""
    if not is_map(value, one.size, other.size):
        raise BadMap("a map from the one size to the other one is wanted")
    return rows_of(value, one.prime)


def basis_of(book, value):
    """The rows of a basis of book, and the map that undoes them; BadBasis if value is no basis."""
    if not is_map(value, book.size, book.size):
        raise BadBasis("as many things as the splitbook has are wanted")
    rows = rows_of(value, book.prime)
    undone = inverse(rows, book.prime)
    if undone is None:
        raise BadBasis("some thing is no sum of multiples of these, or one in several ways")
    return rows, undone
