"""Families of splitbooks: of groups, of a factor g and a factor x that shifts, and of one that slips."""

from splitbooks.books import Splitbook
from splitbooks.errors import BadNumber
from splitbooks.groups import need_group
from splitbooks.grown import grown_book, pair_square, sum_of_squares
from splitbooks.linear import unit
from splitbooks.powers import power
from splitbooks.values import is_number, is_number_within, need_prime

MOST_SLIP = 3


def group_book(prime, table):
    """The splitbook whose things are those of a group, each one split into itself twice."""
    need_prime(prime)
    need_group(table)
    size = len(table)
    joins = [[unit(size, place) for place in row] for row in table]
    splits = [pair_square(size, thing, thing) for thing in range(size)]
    return Splitbook(prime, joins, unit(size, 0), splits, [1] * size)


def _is_root(prime, order, root):
    """Whether order factors root, and no fewer, are 1 modulo the prime."""
    if not is_number(root):
        return False
    powers = [power(root, exponent, prime) for exponent in range(1, order + 1)]
    return powers[-1] == 1 and 1 not in powers[:-1]


def _two_makers(prime, order, led_by_x):
    """The splitbook of products of a factors g and then b factors x, at a * order + b; x led as told."""
    size = order * order
    words = [(0,) * a + (1,) * b for a in range(order) for b in range(order)]
    led_by_g = [unit(size, (place + order) % size) for place in range(size)]
    split_g = pair_square(size, order, order)
    split_x = sum_of_squares(pair_square(size, 1, 0), pair_square(size, order, 1))
    return grown_book(prime, words, [led_by_g, led_by_x], [split_g, split_x], [1, 0])


def shift_book(prime, order, root):
    """The splitbook with order factors g being one, order factors x being 0, x g being root times g x."""
    need_prime(prime)
    if not is_number_within(order, 2, 4):
        raise BadNumber("order")
    if not _is_root(prime, order, root):
        raise BadNumber("root")
    led_by_x = []
    for a in range(order):
        factor = power(root, a, prime)
        rows = [[factor * number for number in unit(order * order, a * order + b + 1)] for b in range(order - 1)]
        led_by_x.extend(rows + [[0] * (order * order)])
    return _two_makers(prime, order, led_by_x)


def slip_book(prime):
    """The splitbook with prime factors g being one, prime factors x being x, x g being g x and g less g g."""
    need_prime(prime)
    if prime > MOST_SLIP:
        raise BadNumber("prime")
    size = prime * prime
    led_by_x = []
    for a in range(prime):
        for b in range(prime):
            row = [0] * size
            row[a * prime + (b + 1 if b + 1 < prime else 1)] += 1
            # To take x past a factors g leaves, for each of them, one slip from a factors to a + 1.
            row[a * prime + b] += a
            row[(a + 1) % prime * prime + b] -= a
            led_by_x.append([number % prime for number in row])
    return _two_makers(prime, prime, led_by_x)
