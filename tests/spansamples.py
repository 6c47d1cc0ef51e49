"""Spans to try things on, and what the document says of them, plainly."""

import functools

from splitbooks.bases import beside, in_basis, other_way
from splitbooks.brackets import bracket_book
from splitbooks.families import group_book
from tests import plainly, samples


def count_less(book, rows):
    """The rows, each less its count times one."""
    prime = book.prime
    return [tuple((n - plainly.count(prime, book.counts, row) * o) % prime for n, o in zip(row, book.one)) for row in rows]


def joined_rows(book, firsts, seconds):
    return [plainly.join(book.prime, book.joins, x, y) for x in firsts for y in seconds]


def span_wrong(book, things, sides):
    """What inner_fault or side_fault has to tell."""
    prime, n = book.prime, book.size
    tidy = plainly.tidy(things, prime)
    if not plainly.is_sum(book.one, tidy, prime):
        return ("one",)
    for i, x in enumerate(tidy):
        for j, y in enumerate(tidy):
            if not plainly.is_sum(plainly.join(prime, book.joins, x, y), tidy, prime):
                return ("joins", i, j)
    units = samples.plain(n)
    pairs = [samples.plain(n) if 0 not in sides else tidy, samples.plain(n) if 1 not in sides else tidy]
    flats = [[a * b for a in x for b in y] for x in pairs[0] for y in pairs[1]]
    for i, x in enumerate(tidy):
        square = plainly.split(prime, book.splits, x)
        if not plainly.is_sum([number for row in square for number in row], flats, prime):
            return ("splits", i)
    return None if units else None


def least_span(book, things, sides):
    """The tidy list of the least span with all of the things that is a side span of these sides, step by step."""
    prime, n = book.prime, book.size
    rows = plainly.tidy(list(things) + [book.one], prime)
    while True:
        more = list(rows)
        for x in rows:
            square = plainly.split(prime, book.splits, x)
            if 0 in sides:
                more += list(zip(*square))
            if 1 in sides:
                more += list(square)
        more = plainly.tidy(more, prime)
        more = plainly.tidy(more + joined_rows(book, more, more), prime)
        if len(more) == len(rows):
            return rows
        rows = more


def all_spans(book, sides):
    """All side spans of these sides: sums of least spans of things, put together until there are no more."""
    rows = list(samples.all_rows(book.prime, book.size))
    least = []
    for x in rows:
        span = least_span(book, [x], sides)
        if span not in least:
            least.append(span)
    found = list(least)
    for span in found:
        for other in least:
            both = least_span(book, span + other, sides)
            if both not in found:
                found.append(both)
    return sorted(found, key=lambda span: (len(span), span))


@functools.lru_cache(None)
def spanned_books():
    """Books of which all spans can be listed, by name."""
    found = {name: book for name, book in samples.more_books().items() if book.prime ** book.size <= 729}
    none = [[[0] * 3] * 3] * 3
    more = {
        "eight over 2": group_book(2, samples.EIGHT),
        "quaternions over 2, other way, basis": in_basis(other_way(group_book(2, samples.QUATERNIONS)),
                                                         samples.some_basis(8, 2)),
        "twos over 2, other way": other_way(group_book(2, samples.beside_groups(samples.FOUR, samples.cyclic(2)))),
        "threes over 2, other way": other_way(group_book(2, samples.beside_groups(samples.cyclic(3), samples.cyclic(3)))),
        "brackets of three": bracket_book(2, none, [[0] * 3] * 3),
        "six over 3, other way, basis": in_basis(other_way(group_book(3, samples.SIX)), samples.some_basis(6, 3)),
        "slip beside two": beside(samples.families()["slip 2"], group_book(2, samples.cyclic(2))),
    }
    found.update(more)
    return found


@functools.lru_cache(None)
def some_spans():
    """(book, span, sides) by name: spans of all kinds, also of books too large to list all; some few of each book."""
    from splitbooks.inner import inner_by, inner_spans, side_by, side_spans
    found = {}
    for name, book in spanned_books().items():
        spans = [(span, (0, 1)) for span in inner_spans(book)[-3:]]
        spans += [(span, (side,)) for side in (0, 1) for span in side_spans(book, side)[-5:-1]]
        for at, (span, sides) in enumerate(spans):
            found[f"{name}: {at}"] = (book, span, sides)
    larger = {name: book for name, book in {**samples.more_books(), **samples.large_books()}.items()
              if name not in spanned_books()}
    larger["six and two over 5"] = group_book(5, samples.beside_groups(samples.SIX, samples.cyclic(2)))
    larger["quaternions and two over 3"] = group_book(3, samples.beside_groups(samples.QUATERNIONS, samples.cyclic(2)))
    for name, book in larger.items():
        things = samples.plain(book.size)
        for at in (1, 2, book.size // 2, book.size - 1):
            if at < book.size:
                found[f"{name}: inner {at}"] = (book, inner_by(book, [things[at]]), (0, 1))
                found[f"{name}: side {at}"] = (book, side_by(book, [things[at]], at % 2), (at % 2,))
    for name, wide in (("six and two over 5", 6), ("quaternions and two over 3", 8)):
        things = samples.plain(larger[name].size)
        found[f"{name}: first"] = (larger[name], [things[2 * k] for k in range(wide)], (0, 1))
    return found


def moved_rows(rows, prime, seed=3):
    """Other things of the same span, too many of them, in no sequence."""
    import random
    chance = random.Random(seed)
    found = []
    for _ in range(len(rows) + 2):
        numbers = [chance.randrange(-prime, 2 * prime) for _ in rows]
        found.append([sum(number * row[k] for number, row in zip(numbers, rows)) for k in range(len(rows[0]))])
    found += [[n + prime for n in row] for row in reversed(rows)]
    return found
