"""Twists: squares that, put around all splits, make another splitbook of the same joins."""

from splitbooks.axes import cube_flat, cube_folded, moved, summed
from splitbooks.books import Splitbook
from splitbooks.checks import need_book, need_few
from splitbooks.crossings import crossing_of
from splitbooks.errors import BadRow, BadTwist
from splitbooks.joiners import Joiner, led_behind, row_undone
from splitbooks.leadings import rows_of_count
from splitbooks.linear import across, combined, flat, folded, halves_led, led_all
from splitbooks.meetings import pairs_met
from splitbooks.tables import halves_met, row_counted, row_split, squares_met
from splitbooks.values import is_row, is_square, row_of, rows_of

MOST_LEADERS = 2000


def _leader(book, square):
    """The sum, over the pairs (a, b) of a square, of a joined to the back of b."""
    return halves_met(book.prime, book.joins, led_all(square, book.back, book.prime))


def _goes_round(book, square):
    """Whether the square, put behind splits of its first halves and of its second ones, makes the same triples."""
    size = book.size
    prime = book.prime
    cube = [size] * 3
    splits = cube_flat(book.splits)
    # At first half, second half, and what stands beside them.
    firsts = moved(summed(flat(across(square)), splits, size, prime), cube, [1, 2, 0])
    seconds = moved(summed(flat(square), splits, size, prime), cube, [1, 2, 0])
    left = pairs_met(prime, book.joins, square, firsts, size)
    right = pairs_met(prime, book.joins, square, seconds, size)
    return left == moved(right, cube, [2, 0, 1])


def is_twist(book, thing):
    """Whether thing, any value, is a twist of book."""
    need_book(book)
    if not is_square(thing, book.size):
        return False
    prime = book.prime
    square = rows_of(thing, prime)
    if combined(book.counts, square, prime) != book.one or combined(book.counts, across(square), prime) != book.one:
        return False
    if not _goes_round(book, square):
        return False
    # A square of which all else is right can be undone just if its leader can.
    return row_undone(prime, book.joins, book.one, _leader(book, square)) is not None


def twist_of(book, value):
    """The twist of book that value is; BadTwist if it is none."""
    if not is_twist(book, value):
        raise BadTwist("a twist of the splitbook is wanted")
    return rows_of(value, book.prime)


def undone_of(book, square):
    """What undoes a twist that is taken.

    It is the sum, over the pairs (a, b) and the split (c, d) of a, of c beside d joined to the back of b, joined to
    what undoes the leader: put behind the twist this makes of its triples, d beside the back of b, the leader.
    """
    prime = book.prime
    size = book.size
    undone = row_undone(prime, book.joins, book.one, _leader(book, square))
    behind = led_all(led_all(square, book.back, prime), led_behind(prime, book.joins, undone), prime)
    # At c, d, b.
    parts = summed(moved(cube_flat(book.splits), [size] * 3, [1, 2, 0]), flat(behind), size, prime)
    return folded(summed(parts, cube_flat(book.joins), size * size, prime), size)


def twist_undone(book, square):
    """The square that, joined half by half to the twist in either sequence, is the pair of one and one."""
    need_book(book)
    return undone_of(book, twist_of(book, square))


def twisted_of(book, square):
    """The twisted splitbook of a twist that is taken."""
    prime = book.prime
    cube = [book.size] * 3
    halves = moved(cube_flat(book.splits), cube, [1, 2, 0])
    halves = pairs_met(prime, book.joins, square, halves, book.size)
    halves = pairs_met(prime, across(book.joins), undone_of(book, square), halves, book.size)
    splits = cube_folded(moved(halves, cube, [2, 0, 1]), book.size, book.size)
    return Splitbook(prime, book.joins, book.one, splits, book.counts)


def twisted(book, square):
    """The splitbook in which things split as in book, with the twist ahead and what undoes it behind."""
    need_book(book)
    return twisted_of(book, twist_of(book, square))


def twist_leader(book, square):
    """The sum, over the pairs (a, b) of the twist, of a joined to the back of b."""
    need_book(book)
    return _leader(book, twist_of(book, square))


def led_twist(book, square, thing):
    """The pair of a thing and itself, joined to the twist, joined to the split of what undoes the thing."""
    need_book(book)
    square = twist_of(book, square)
    prime = book.prime
    undone = None
    if is_row(thing, book.size):
        thing = row_of(thing, prime)
        if row_counted(prime, book.counts, thing) == 1:
            undone = row_undone(prime, book.joins, book.one, thing)
    if undone is None:
        raise BadRow("a thing of the splitbook of count 1 that can be undone is wanted")
    ahead = Joiner(prime, book.joins).leader(thing)
    led = halves_led(square, ahead, ahead, prime)
    return squares_met(prime, book.joins, led, row_split(prime, book.splits, undone))


def _leads_to(prime, ahead, thing, square, wanted):
    """Whether the pair of thing and itself, joined to square, is what wanted tells; ahead puts thing ahead.

    wanted has, for each first half, a row for each thing: thing is the sum of these, and what is wanted likewise.
    """
    led = led_all(square, ahead, prime)
    for column, rows in zip(across(ahead), wanted):
        if combined(column, led, prime) != combined(thing, rows, prime):
            return False
    return True


def twist_lead(book, one, other):
    """The least thing that makes led_twist lead one twist to the other one; None if there is none."""
    need_book(book)
    one = twist_of(book, one)
    other = twist_of(book, other)
    prime = book.prime
    size = book.size
    need_few(prime, size - 1, MOST_LEADERS)
    # At m, k, n: the other twist joined to the split of thing k.
    met = pairs_met(prime, book.joins, other, moved(cube_flat(book.splits), [size] * 3, [1, 2, 0]), size)
    wanted = cube_folded(moved(met, [size] * 3, [0, 2, 1]), size, size)
    joiner = Joiner(prime, book.joins)
    for thing in rows_of_count(book, 1):
        if _leads_to(prime, joiner.leader(thing), thing, one, wanted):
            if row_undone(prime, book.joins, book.one, thing) is not None:
                return thing
    return None


def twisted_crossing(book, square, crossing):
    """The twist with its halves exchanged, joined to a crossing, joined to what undoes the twist."""
    need_book(book)
    square = twist_of(book, square)
    crossing = crossing_of(book, crossing)
    prime = book.prime
    ahead = squares_met(prime, book.joins, across(square), crossing)
    return squares_met(prime, book.joins, ahead, undone_of(book, square))
