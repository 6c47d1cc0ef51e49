"""Splitbooks, and the first place where tables are none."""

from splitbooks.errors import BadBook, BadShape
from splitbooks.faults import fault_and_back
from splitbooks.values import cube_of, is_cube, is_listing, is_number_within, is_row, need_prime, row_of

MOST_THINGS = 16


def _tables_taken(prime, joins, one, splits, counts):
    """Joins, one, splits and counts modulo the prime, once their shapes are found right."""
    need_prime(prime)
    if not is_listing(joins) or not is_number_within(len(joins), 1, MOST_THINGS):
        raise BadShape("joins")
    size = len(joins)
    if not is_cube(joins, size):
        raise BadShape("joins")
    if not is_row(one, size):
        raise BadShape("one")
    if not is_cube(splits, size):
        raise BadShape("splits")
    if not is_row(counts, size):
        raise BadShape("counts")
    return cube_of(joins, prime), row_of(one, prime), cube_of(splits, prime), row_of(counts, prime)


def what_is_wrong(prime, joins, one, splits, counts):
    """None if these tables are a splitbook, otherwise a tuple that tells the first wrong place."""
    joins, one, splits, counts = _tables_taken(prime, joins, one, splits, counts)
    fault, _ = fault_and_back(prime, joins, one, splits, counts)
    return fault


class Splitbook:
    """Tables that agree, and the back that undoes each split."""

    def __init__(self, prime, joins, one, splits, counts):
        joins, one, splits, counts = _tables_taken(prime, joins, one, splits, counts)
        fault, back = fault_and_back(prime, joins, one, splits, counts)
        if fault is not None:
            raise BadBook(fault)
        self.prime = prime
        self.size = len(joins)
        self.joins = joins
        self.one = one
        self.splits = splits
        self.counts = counts
        self.back = back

    def __eq__(self, other):
        return (isinstance(other, Splitbook) and self.prime == other.prime and self.joins == other.joins
                and self.one == other.one and self.splits == other.splits and self.counts == other.counts)
