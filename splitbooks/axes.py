"""Numbers with several indexes, all in one row: the last index runs first. The shape tells how far each one runs."""

from splitbooks.linear import across, flat, folded, led_all


def moved(numbers, shape, order):
    """The numbers with their indexes in another order: order tells, for each one, which it was."""
    steps = [1]
    for many in reversed(shape[1:]):
        steps = [many * steps[0]] + steps
    places = [0]
    for index in order:
        ways = [step * steps[index] for step in range(shape[index])]
        places = [place + way for place in places for way in ways]
    return tuple([numbers[place] for place in places])


def summed(first, second, many, prime):
    """The sums of products over the last index of first and the first index of second; it runs to many.

    What is returned has the other indexes of first and then those of second.
    """
    rows = folded(first, many)
    leader = folded(second, len(second) // many)
    # Few sums of long rows are quicker than many of short ones.
    if len(rows) > len(leader[0]):
        return flat(across(led_all(across(leader), across(rows), prime)))
    return flat(led_all(rows, leader, prime))


def cube_flat(cube):
    """All numbers of a cube, or of another list of squares or maps."""
    return tuple([number for square in cube for row in square for number in row])


def cube_folded(numbers, high, wide):
    """The list of squares or maps, each of so many rows of so many numbers, that cube_flat makes numbers of."""
    return tuple([folded(row, wide) for row in folded(numbers, high * wide)])
