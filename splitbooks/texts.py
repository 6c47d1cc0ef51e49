"""Splitbooks as texts, and texts as splitbooks."""

from splitbooks.books import MOST_THINGS, Splitbook
from splitbooks.checks import need_book
from splitbooks.errors import BadBook, BadText
from splitbooks.linelanguage import numbers_read, prime_read, row_text, rows_read, rows_text


def book_text(book):
    """The text of a splitbook."""
    need_book(book)
    lines = [f"splitbook {book.prime} {book.size}", "one " + row_text(book.one), "counts " + row_text(book.counts)]
    for word, cube in (("joins", book.joins), ("splits", book.splits)):
        lines.extend([word + " " + rows_text(square) for square in cube])
    return "\n".join(lines)


def _first_read(line):
    """The prime and the size that a first line tells; None if it is none."""
    words = line.split(" ")
    if len(words) != 3 or words[0] != "splitbook":
        return None
    prime = prime_read(words[1])
    size = numbers_read(words[2:], MOST_THINGS)
    if prime is None or size is None or size[0] == 0:
        return None
    return prime, size[0]


def _line_read(line, word, prime, many, size):
    """The rows, so many of this size, that a line tells behind a word; None if it does not."""
    if not line.startswith(word + " "):
        return None
    rows = rows_read(line[len(word) + 1:], prime - 1)
    if rows is None or len(rows) != many or len(rows[0]) != size:
        return None
    return rows


def book_of_text(text):
    """The splitbook with this text; BadText with the place of the first wrong line."""
    if not isinstance(text, str):
        raise BadText(0)
    lines = text.split("\n")
    first = _first_read(lines[0])
    if first is None:
        raise BadText(0)
    prime, size = first
    words = [("one", 1), ("counts", 1)] + [("joins", size)] * size + [("splits", size)] * size
    told = []
    for at, (word, many) in enumerate(words, start=1):
        rows = _line_read(lines[at], word, prime, many, size) if at < len(lines) else None
        if rows is None:
            raise BadText(at)
        told.append(rows)
    if len(lines) > len(words) + 1:
        raise BadText(len(words) + 1)
    try:
        return Splitbook(prime, told[2:2 + size], told[0][0], told[2 + size:], told[1][0])
    except BadBook:
        raise BadText(len(lines)) from None
