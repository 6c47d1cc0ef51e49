"""Things that split evenly, into themselves beside one and one beside themselves."""

from splitbooks.betweens import between_rows
from splitbooks.checks import need_book
from splitbooks.joiners import Joiner, led_behind
from splitbooks.linear import combined, first_place, flat, led_all
from splitbooks.tables import all_joined, row_split, rows_paired
from splitbooks.values import is_row, row_of


def is_even(book, thing):
    """Whether thing, any value, is a thing that splits evenly."""
    need_book(book)
    if not is_row(thing, book.size):
        return False
    prime = book.prime
    row = row_of(thing, prime)
    pairs = [flat(rows_paired(prime, row, book.one)), flat(rows_paired(prime, book.one, row))]
    return flat(row_split(prime, book.splits, row)) == combined([1, 1], pairs, prime)


def evens(book):
    """The tidy list of the things that split evenly."""
    need_book(book)
    return between_rows(book, book.one, book.one)


def even_brackets(book):
    """The brackets and the powers of the things that split evenly."""
    need_book(book)
    prime = book.prime
    rows = evens(book)
    if not rows:
        return (), ()
    # A sum of multiples of tidy rows has its numbers at their first places.
    places = [first_place(row) for row in rows]
    joined = all_joined(prime, book.joins, rows, rows)
    many = range(len(rows))
    brackets = tuple([tuple([tuple([(joined[i][j][place] - joined[j][i][place]) % prime for place in places])
                             for j in many]) for i in many])
    joiner = Joiner(prime, book.joins)
    powers = [joiner.power(row, prime) for row in rows]
    return brackets, tuple([tuple([row[place] for place in places]) for row in powers])


def even_leading(book):
    """The map from the bracket book of the things that split evenly; None if there are none."""
    need_book(book)
    prime = book.prime
    things = evens(book)
    if not things:
        return None
    rows = (book.one,)
    for thing in things:
        leader = led_behind(prime, book.joins, thing)
        found = rows
        for _ in range(prime - 1):
            rows = led_all(rows, leader, prime)
            found = found + rows
        rows = found
    return rows
