"""How many likenesses a splitbook of few things has to itself, and how many splitbooks of few things there are."""

from splitbooks.checks import need_book
from splitbooks.fewbooks import few_books, need_few_size
from splitbooks.linear import across, plain
from splitbooks.selfsplit import selfsplit_things

LIKENESSES = {4: 6, 2: 2, 1: 3}


def _many_likenesses(book):
    """The number of likenesses from a splitbook of few things to itself."""
    if book.size < 3:
        return 1
    if book.size == 3:
        return 2
    if book.joins != across(book.joins):
        return book.prime - 1
    if book.back != plain(book.size):
        return 2
    # They exchange the three things, or fields beyond, of which two make the third.
    return LIKENESSES[len(selfsplit_things(book))]


def self_likenesses(book):
    """The number of likenesses from book to itself."""
    need_book(book)
    need_few_size(book.prime, book.size)
    return _many_likenesses(book)


def few_counts(prime, size):
    """The number of ways to choose joins, one, splits and counts of this size so that they are a splitbook."""
    books = few_books(prime, size)
    whole = 1
    for _ in range(size):
        whole = whole * prime
    bases = 1
    less = 1
    for _ in range(size):
        bases = bases * (whole - less)
        less = less * prime
    return sum([bases // _many_likenesses(book) for book in books])
