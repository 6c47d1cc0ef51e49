"""Twists and product tables; all twists of a small splitbook, and how many there are of functions on a group."""

from itertools import product

from splitbooks.axes import cube_flat, cube_folded, moved, summed
from splitbooks.checks import need_book, need_few
from splitbooks.doingtables import ProductTable, doing_of, need_few_in_table
from splitbooks.errors import TooMany
from splitbooks.groups import need_group
from splitbooks.known import Known
from splitbooks.linear import flat, folded, paired
from splitbooks.modular import Relations
from splitbooks.stairs import kernel
from splitbooks.twists import is_twist, twist_of, undone_of
from splitbooks.values import need_prime

MOST_SQUARES = 700
MOST_FUNCTIONS = 8


def twisted_table(book, table, doing, square):
    """The product table in which two things are led by what undoes the twist, half by half, and then joined."""
    doing = doing_of(book, table, doing)
    undone = undone_of(book, twist_of(book, square))
    prime = book.prime
    many = book.size
    size = table.size
    # At c, k, b: what stands beside c leads b to k. At a, z, c, k: c leads a to what, joined to k, is z.
    seconds = moved(summed(flat(undone), cube_flat(doing), many, prime), [many, size, size], [0, 2, 1])
    firsts = summed(cube_flat(doing), cube_flat(table.joins), size, prime)
    firsts = moved(firsts, [many, size, size, size], [1, 3, 0, 2])
    joined = moved(summed(firsts, seconds, many * size, prime), [size] * 3, [0, 2, 1])
    return ProductTable(prime, Known(cube_folded(joined, size, size)), Known(table.one))


def twist_likeness(book, table, doing, square):
    """The map from the smash table of what is twisted to that of what is not."""
    doing = doing_of(book, table, doing)
    square = twist_of(book, square)
    need_few_in_table(table.size * book.size)
    prime = book.prime
    many = book.size
    size = table.size
    # At a, b, d: what stands beside d leads a to b; then at a, b, x, y: d joined to x is y.
    numbers = moved(flat(undone_of(book, square)), [many, many], [1, 0])
    led = moved(summed(numbers, cube_flat(doing), many, prime), [many, size, size], [1, 2, 0])
    led = summed(led, cube_flat(book.joins), many, prime)
    return folded(moved(led, [size, size, many, many], [0, 2, 1, 3]), size * many)


def _sums_of(prime, first, squares):
    """The ascending list of all sums of first and multiples of squares, rows of which none is a sum of others."""
    found = [first]
    for square in squares:
        found = [[number + factor * more for number, more in zip(row, square)] for row in found
                 for factor in range(prime)]
    return sorted([tuple([number % prime for number in row]) for row in found])


def twists(book):
    """The ascending list of all twists."""
    need_book(book)
    need_few(book.prime, (book.size - 1) * (book.size - 1), MOST_SQUARES)
    # Beyond the pair of one and one, halves are things of count 0, as counting either half leaves one.
    uncounted = kernel([[count] for count in book.counts], book.prime)
    squares = [flat(paired(one, other)) for one in uncounted for other in uncounted]
    rows = _sums_of(book.prime, flat(paired(book.one, book.one)), squares)
    return [square for square in [folded(row, book.size) for row in rows] if is_twist(book, square)]


def function_twists(prime, table):
    """The number of all twists of the other way of a group's splitbook."""
    need_prime(prime)
    need_group(table)
    if len(table) > MOST_FUNCTIONS:
        raise TooMany(MOST_FUNCTIONS)
    # A twist has a number that is not 0 at each pair of things, a power of one root: so exponents add up, and count
    # modulo prime - 1. Beside the unit all numbers are 1.
    things = list(range(1, len(table)))
    pairs = list(product(things, things))
    place_of = {pair: place for place, pair in enumerate(pairs)}
    relations = Relations(prime - 1, len(pairs))
    for g, h, k in product(things, things, things):
        row = [0] * len(pairs)
        for pair, sign in (((g, h), 1), ((table[g][h], k), 1), ((h, k), -1), ((g, table[h][k]), -1)):
            if pair in place_of:
                row[place_of[pair]] += sign
        relations.take(row)
    return relations.many_choices()
