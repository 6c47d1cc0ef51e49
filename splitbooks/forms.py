"""The row that makes a form in which nothing is lost, and what this form tells of the back."""

from splitbooks.checks import basis_of, need_book, thing_of
from splitbooks.linear import across, combined, inverse, led_all
from splitbooks.powers import number_undone
from splitbooks.stairs import kernel
from splitbooks.swallowed import swallowed_left
from splitbooks.tables import row_counted, row_split
from splitbooks.values import is_square, rows_of


def told_joined(prime, joins, row):
    """The square of what row tells of thing i joined to thing j."""
    return tuple([tuple([row_counted(prime, row, line) for line in square]) for square in joins])


def swallowing_row(book):
    """The row that tells of first halves, beside the second ones, what it tells times one; 1 of swallowed_left."""
    need_book(book)
    prime = book.prime
    rows = []
    for j in range(book.size):
        row = []
        for i, square in enumerate(book.splits):
            less = book.one if i == j else (0,) * book.size
            row.extend([(number - other) % prime for number, other in zip(square[j], less)])
        rows.append(row)
    found = kernel(rows, prime)
    told = row_counted(prime, found[0], swallowed_left(book))
    return combined([number_undone(told, prime)], found, prime)


def row_form(book, row):
    """The square of what a row tells of thing i joined to thing j."""
    need_book(book)
    return told_joined(book.prime, book.joins, thing_of(book, row))


def is_form(book, thing):
    """Whether thing, any value, is a form of book."""
    need_book(book)
    if not is_square(thing, book.size):
        return False
    square = rows_of(thing, book.prime)
    row = combined(book.one, square, book.prime)
    return told_joined(book.prime, book.joins, row) == square and inverse(square, book.prime) is not None


def passing_square(book):
    """The split of swallowed_left with its second halves led by the back."""
    need_book(book)
    return led_all(row_split(book.prime, book.splits, swallowed_left(book)), book.back, book.prime)


def duals(book, rows):
    """The things of which the swallowing row, with the rows of a basis ahead, tells 1 for one row and 0 for others."""
    need_book(book)
    rows, _ = basis_of(book, rows)
    square = led_all(rows, row_form(book, swallowing_row(book)), book.prime)
    return list(across(inverse(square, book.prime)))


def back_by_form(book):
    """The map to what the swallowing row tells of a thing joined to the first halves of swallowed_left's split."""
    need_book(book)
    halves = row_split(book.prime, book.splits, swallowed_left(book))
    return led_all(row_form(book, swallowing_row(book)), halves, book.prime)


def shifted(book, thing):
    """The row that tells of each x what the swallowing row tells of thing joined to x."""
    need_book(book)
    thing = thing_of(book, thing)
    return combined(thing, row_form(book, swallowing_row(book)), book.prime)


def shift_of(book, row):
    """The thing of which shifted is row."""
    need_book(book)
    row = thing_of(book, row)
    return combined(row, passing_square(book), book.prime)
