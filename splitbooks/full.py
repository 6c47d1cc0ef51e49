"""What is smashed twice is the full table of squares."""

from splitbooks.axes import cube_flat, moved, summed
from splitbooks.doingtables import doing_of, need_few_in_table
from splitbooks.linear import flat, folded, inverse


def unfolding(book, table, doing):
    """The map that leads (a beside x) beside f, smashed twice, to a square of things of table."""
    doing = doing_of(book, table, doing)
    need_few_in_table(table.size * book.size * book.size)
    prime = book.prime
    many = book.size
    size = table.size
    splits = cube_flat(book.splits)
    # At p, a, b: the back undone of p leads a to b.
    backs = summed(flat(inverse(book.back, prime)), cube_flat(doing), many, prime)
    # At y, i, a, b: by the first halves of y that stand beside i.
    halves = summed(moved(splits, [many] * 3, [0, 2, 1]), backs, many, prime)
    # At j, f, x, y: x joined to what f leaves of j.
    joins = moved(cube_flat(book.joins), [many] * 3, [1, 0, 2])
    left = summed(moved(splits, [many] * 3, [0, 2, 1]), joins, many, prime)
    led = summed(left, halves, many, prime)
    # At j, f, x, i, a, b; rows are wanted at a, x, f and places at b, i, j.
    led = moved(led, [many, many, many, many, size, size], [4, 2, 1, 5, 3, 0])
    return folded(led, size * many * many)
