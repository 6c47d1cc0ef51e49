"""Many squares joined half by half to one square at once."""

from splitbooks.axes import cube_flat, moved, summed
from splitbooks.linear import across, flat


def pairs_met(prime, joins, square, numbers, many):
    """A square joined, half by half, to each of many others; numbers has theirs at first half, second half, which.

    What is returned has the numbers in the same sequence. With joins turned about the one square stands behind.
    """
    size = len(joins)
    cube = cube_flat(joins)
    # At d, m, p: the first halves that stand beside d, joined to p.
    first = summed(flat(across(square)), cube, size, prime)
    first = moved(first, [size] * 3, [0, 2, 1])
    # At m, z, d, q, and then d is joined to q.
    half = moved(summed(first, numbers, size, prime), [size, size, size, many], [1, 3, 0, 2])
    led = summed(half, cube, size * size, prime)
    return moved(led, [size, many, size], [0, 2, 1])
