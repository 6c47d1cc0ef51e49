"""Three strands that cross, things that can be undone, and the thing that a crossing makes."""

from splitbooks.axes import cube_flat, cube_folded, moved, summed
from splitbooks.checks import need_book, square_of, thing_of
from splitbooks.crossings import crossing_of
from splitbooks.joiners import row_undone
from splitbooks.linear import across, flat, led_all
from splitbooks.tables import halves_met


def _three_crossed(prime, joins, square):
    """The numbers at triples of the sum, over pairs (a, b), (c, d), (e, f), of (ac, be, df)."""
    size = len(joins)
    cube = [size] * 3
    joins = cube_flat(joins)
    numbers = flat(square)
    # At b, p, d: a joined to c. At b, q, f: b joined to e.
    first = summed(flat(across(square)), joins, size, prime)
    first = summed(moved(first, cube, [0, 2, 1]), numbers, size, prime)
    second = summed(moved(joins, cube, [0, 2, 1]), numbers, size, prime)
    # At p, d, q, f, and then d joined to f.
    both = summed(moved(first, cube, [1, 2, 0]), second, size, prime)
    both = moved(both, [size] * 4, [0, 2, 1, 3])
    return cube_folded(summed(both, joins, size * size, prime), size, size)


def three_strands(book, square):
    """The pair of the cubes of three crossed strands, in the one sequence and in the other."""
    need_book(book)
    square = square_of(book, square)
    prime = book.prime
    return _three_crossed(prime, book.joins, square), _three_crossed(prime, across(book.joins), square)


def thing_undone(book, thing):
    """The thing that, joined to thing in either sequence, is one; None if there is none."""
    need_book(book)
    return row_undone(book.prime, book.joins, book.one, thing_of(book, thing))


def leader_of(book, square):
    """The crossing_thing of a crossing that is taken."""
    pairs = led_all(across(book.back), across(square), book.prime)
    return halves_met(book.prime, book.joins, pairs)


def crossing_thing(book, square):
    """The sum, over the pairs (a, b) of a crossing, of the back of b joined to a."""
    need_book(book)
    return leader_of(book, crossing_of(book, square))
