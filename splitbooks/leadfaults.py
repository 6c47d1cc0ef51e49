"""The first place where leads, whose numbers are all from 0 to prime - 1, do not go with bare joins and one."""

from splitbooks.ledpacks import LedSquares
from splitbooks.linear import combined, flat, folded, unit
from splitbooks.makers import Growth
from splitbooks.packs import total


def unmoved_fault(prime, one, leads):
    """The least i such that one does not lead row i to itself; None if there is none."""
    size = len(leads[0])
    led = folded(combined(one, [flat(square) for square in leads], prime), size)
    for i, row in enumerate(led):
        if row != unit(size, i):
            return i
    return None


def joined_fault(prime, joins, leads):
    """The least (j, k, i) such that j joined to k does not lead i to what j leads to of what k leads i to, or None.

    If j is right with all k and i, and j' as well, then j joined to j' is: so only makers are looked at.
    """
    squares = LedSquares(prime, leads, max(len(joins), len(leads[0])) * prime ** 2)
    growth = Growth(prime, joins)
    for j in range(len(joins)):
        if growth.lacks(j):
            for k, row in enumerate(joins[j]):
                place = squares.comparer.first_unlike(total(row, squares.packs), squares.led(k, j))
                if place is not None:
                    return (j, k, place // squares.size)
            growth.grow(j)
    return None
