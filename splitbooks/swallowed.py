"""Things that are swallowed by all others, and what a row tells of things and of halves of their splits."""

from splitbooks.checks import need_book, thing_of
from splitbooks.linear import across, combined, first_place
from splitbooks.stairs import kernel
from splitbooks.tables import row_counted, row_split
from splitbooks.values import is_row, row_of


def multiplied_by(prime, squares, counts):
    """The tidy list of the rows that each map of squares leads to its number in counts times themselves."""
    rows = []
    for k in range(len(squares[0])):
        row = []
        for square, count in zip(squares, counts):
            line = list(square[k])
            line[k] = (line[k] - count) % prime
            row.extend(line)
        rows.append(row)
    return kernel(rows, prime)


def swallowed_left(book):
    """The thing to which each other one, put ahead of it, does what its count does; its first number is 1."""
    need_book(book)
    return multiplied_by(book.prime, book.joins, book.counts)[0]


def swallowed_right(book):
    """The thing to which each other one, put behind it, does what its count does; its first number is 1."""
    need_book(book)
    return multiplied_by(book.prime, across(book.joins), book.counts)[0]


def _is_multiplied(book, squares, thing):
    """Whether thing is a row that each map of squares multiplies by the count of its place."""
    if not is_row(thing, book.size):
        return False
    prime = book.prime
    row = row_of(thing, prime)
    for square, count in zip(squares, book.counts):
        if combined(row, square, prime) != combined([count], [row], prime):
            return False
    return True


def is_swallowed_left(book, thing):
    """Whether thing, any value, is a thing that all things put ahead of it multiply by their counts."""
    need_book(book)
    return _is_multiplied(book, book.joins, thing)


def is_swallowed_right(book, thing):
    """Whether thing, any value, is a thing that all things put behind it multiply by their counts."""
    need_book(book)
    return _is_multiplied(book, across(book.joins), thing)


def sides_alike(book):
    """Whether the same thing is swallowed from both sides."""
    need_book(book)
    return swallowed_left(book) == swallowed_right(book)


def row_tells(book, row, thing):
    """The number that a row tells of a thing."""
    need_book(book)
    row = thing_of(book, row)
    return row_counted(book.prime, row, thing_of(book, thing))


def firsts_told(book, row, thing):
    """The second halves of the split of a thing, each times what row tells of its first half."""
    need_book(book)
    row = thing_of(book, row)
    return combined(row, row_split(book.prime, book.splits, thing_of(book, thing)), book.prime)


def seconds_told(book, row, thing):
    """The first halves of the split of a thing, each times what row tells of its second half."""
    need_book(book)
    row = thing_of(book, row)
    return combined(row, across(row_split(book.prime, book.splits, thing_of(book, thing))), book.prime)


def shift_row(book):
    """The row that tells by what each thing, put behind it, multiplies the thing swallowed left."""
    need_book(book)
    thing = swallowed_left(book)
    place = first_place(thing)
    # The first number of thing is 1: so this one tells the multiple.
    return combined(thing, [[row[place] for row in square] for square in book.joins], book.prime)
