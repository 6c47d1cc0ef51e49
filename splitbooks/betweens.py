"""Things that split between two selfsplit ones, and the layers that all things lie in."""

from splitbooks.checks import need_book, thing_of
from splitbooks.errors import BadSelfsplit
from splitbooks.linear import across, beyond_map, combined, cube_led, flat, plain, tidy_list
from splitbooks.selfsplit import is_selfsplit, selfsplit_things
from splitbooks.stairs import kernel
from splitbooks.tables import rows_paired


def between_rows(book, first, second):
    """The tidy list of the things that split into themselves and first, second and themselves, for any two things."""
    prime = book.prime
    rows = []
    for thing, square in zip(plain(book.size), book.splits):
        parts = [square, rows_paired(prime, thing, first), rows_paired(prime, second, thing)]
        rows.append(combined([1, -1, -1], [flat(part) for part in parts], prime))
    return kernel(rows, prime)


def betweens(book, first, second):
    """The tidy list of the things that split into themselves and first, second and themselves."""
    need_book(book)
    first = thing_of(book, first)
    second = thing_of(book, second)
    for thing in (first, second):
        if not is_selfsplit(book, thing):
            raise BadSelfsplit("a selfsplit thing is wanted")
    return between_rows(book, first, second)


def _next_layer(book, first, last):
    """The tidy list of the layer that follows last, first being the first layer."""
    prime = book.prime
    # Only pairs with a first half beyond the first layer and a second half beyond the last one leave something.
    beyond_first = beyond_map(first, book.size, prime)
    beyond_last = beyond_map(last, book.size, prime)
    squares = cube_led(book.splits, None, across(beyond_first), beyond_last, prime)
    return kernel([flat(square) for square in squares], prime)


def layers(book):
    """The list of the layers, each a tidy list; each one has more rows than the one before."""
    need_book(book)
    first = tidy_list(selfsplit_things(book), book.prime)
    found = [first]
    more = _next_layer(book, first, first)
    while len(more) > len(found[-1]):
        found.append(more)
        more = _next_layer(book, first, more)
    return found
