"""What undoes a map, once it is convolved with it."""

from splitbooks.linear import across, cube_led, flat, folded, led_all
from splitbooks.stairs import kernel
from splitbooks.tables import counts_to_one, maps_convolved


def undoes(book, other, first, second):
    """Whether two maps, convolved in this sequence, lead each thing of book to its count times one of other."""
    wanted = counts_to_one(book.prime, book.counts, other.one)
    return maps_convolved(book.prime, book.splits, other.joins, first, second) == wanted


def solved_back(book, other, first):
    """The map that, convolved with first, leads each thing to its count times one; None if there is none.

    It is worked out as what it is multiplied by: there is one just if first, convolved with the maps that
    lead one thing to one thing, makes maps that are no sums of each other; then there is no other relation.
    """
    prime = book.prime
    # At i, k the sum of what first leads the first halves of thing i, beside its second half k, to.
    halves = cube_led(book.splits, None, across(first), None, prime)
    rows = [row for columns in [across(square) for square in halves] for row in columns]
    led = led_all(rows, [flat(square) for square in other.joins], prime)
    parts = [folded(row, other.size) for row in led]
    made = [flat(counts_to_one(prime, book.counts, other.one))]
    for k in range(book.size):
        for b in range(other.size):
            made.append(flat([parts[i * book.size + k][b] for i in range(book.size)]))
    relations = kernel(made, prime)
    if len(relations) != 1 or relations[0][0] == 0:
        return None
    numbers = [-number % prime for number in relations[0][1:]]
    return folded(numbers, other.size)


def map_back(book, other, first):
    """The map that, convolved with first in either sequence, leads to counts times one; None if there is none."""
    # Maps that keep joins, or splits, are undone by a back: this is asked first, as it is quicker.
    for guess in (led_all(first, other.back, book.prime), led_all(book.back, first, book.prime)):
        if undoes(book, other, first, guess):
            return guess
    return solved_back(book, other, first)
