"""Bare splitbooks, and those that a splitbook is made of by inner spans that stay."""

from splitbooks.checks import need_book, need_few
from splitbooks.inner import BOTH_SIDES, MOST_ROWS, book_within, spans_found
from splitbooks.leftovers import book_left, stays_lost


def _first_part(book):
    """The first inner span that stays, but not that of one nor that of all, and what it loses; or None."""
    for tidy in spans_found(book, BOTH_SIDES):
        if 1 < len(tidy) < book.size:
            lost = stays_lost(book, tidy)
            if lost is not None:
                return tidy, lost
    return None


def is_bare(book):
    """Whether the book has more than one thing and no inner span stays but that of one and that of all things."""
    need_book(book)
    need_few(book.prime, book.size, MOST_ROWS)
    return book.size > 1 and _first_part(book) is None


def _parts_of(book):
    """The bare splitbooks that a splitbook is made of."""
    if book.size == 1:
        return []
    part = _first_part(book)
    if part is None:
        return [book]
    tidy, lost = part
    return _parts_of(book_within(book, tidy)) + _parts_of(book_left(book, lost))


def factors(book):
    """A list of the bare splitbooks that the book is made of by inner spans that stay."""
    need_book(book)
    need_few(book.prime, book.size, MOST_ROWS)
    return _parts_of(book)
