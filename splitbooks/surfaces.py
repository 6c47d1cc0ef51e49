"""Surfaces cut into faces, and the number that a splitbook gives to what is glued together of them."""

from splitbooks.axes import cube_flat, moved, summed
from splitbooks.checks import need_book
from splitbooks.errors import BadCut, NotSimple
from splitbooks.forms import told_joined
from splitbooks.joiners import Joiner
from splitbooks.linear import combined, flat, inverse
from splitbooks.powers import number_undone
from splitbooks.swallowed import multiplied_by, swallowed_left
from splitbooks.tables import row_counted, turned_cube
from splitbooks.values import is_listing, is_number

MOST_EDGES = 30


class Lots:
    """Numbers from 0 on that are put into lots, two lots together again and again."""

    def __init__(self, many):
        self.heads = list(range(many))

    def head(self, at):
        """The number that stands for the lot of at."""
        while self.heads[at] != at:
            at = self.heads[at]
        return at

    def put_together(self, one, other):
        """Makes one lot of the lots of two numbers."""
        self.heads[self.head(one)] = self.head(other)

    def many_lots(self):
        """How many lots there are."""
        return len([at for at, head in enumerate(self.heads) if at == head])


def _numbers_fit(numbers):
    """Whether these are each number from 1 to some E, at most 30, just once, and its negative just once."""
    edges = len(numbers) // 2
    if edges > MOST_EDGES or not all([is_number(number) for number in numbers]):
        return False
    return sorted(numbers) == [number for number in range(-edges, edges + 1) if number != 0]


def _hang_together(faces):
    """Whether all faces hang together by edges that they share."""
    lots = Lots(len(faces))
    face_of = {number: at for at, face in enumerate(faces) for number in face}
    for number, at in face_of.items():
        lots.put_together(at, face_of[-number])
    return lots.many_lots() == 1


def is_cut(thing):
    """Whether thing, any value, is a cut."""
    if not is_listing(thing) or len(thing) == 0:
        return False
    if not all([is_listing(face) and len(face) > 0 for face in thing]):
        return False
    return _numbers_fit([number for face in thing for number in face]) and _hang_together(thing)


def _beginning(number):
    """The place of the beginning of an edge, or of its negative: each edge has two places."""
    return 2 * number - 2 if number > 0 else -2 * number - 1


def _genus_of(cut):
    """The genus of a cut that is found right."""
    edges = sum([len(face) for face in cut]) // 2
    ends = Lots(2 * edges)
    for face in cut:
        for at, number in enumerate(face):
            # The one ahead of the first is the last one. Where it ends, its negative begins.
            ends.put_together(_beginning(-face[at - 1]), _beginning(number))
    return (2 - ends.many_lots() + edges - len(cut)) // 2


def genus(cut):
    """The genus of the surface that is glued of the faces of a cut."""
    if not is_cut(cut):
        raise BadCut("a cut of at most 30 edges is wanted")
    return _genus_of(cut)


def _telling_row(book):
    """The swallowed row that tells 1 of the swallowed thing with count 1; NotSimple if there is none."""
    prime = book.prime
    thing = swallowed_left(book)
    count = row_counted(prime, book.counts, thing)
    row = multiplied_by(prime, turned_cube(book.splits), book.one)[0]
    if count == 0 or row_counted(prime, row, book.one) == 0:
        raise NotSimple("the splitbook does not fall apart both ways")
    told = row_counted(prime, row, thing)
    return combined([count * number_undone(told, prime)], [row], prime)


def _handle_of(book, row):
    """The handle, by the row that tells of things around faces."""
    size = book.size
    prime = book.prime
    joins = cube_flat(book.joins)
    pairs = flat(inverse(told_joined(prime, book.joins, row), prime))
    # At m, j, a: k joined to j, over the pairs (k, m). Then at j, b: a joined to m.
    first = summed(moved(pairs, [size, size], [1, 0]), joins, size, prime)
    first = moved(first, [size] * 3, [1, 2, 0])
    led = summed(first, joins, size * size, prime)
    # At i, b, over the pairs (i, j); and then i joined to b.
    led = summed(pairs, led, size, prime)
    return summed(led, joins, size * size, prime)


def handle(book):
    """The sum, over two pairs (i, j) and (k, m) of the square of the swallowed row, of i, k, j, m joined."""
    need_book(book)
    return _handle_of(book, _telling_row(book))


def glued_number(book, cut):
    """The number of what is glued of a cut: it hangs on the genus alone."""
    need_book(book)
    many = genus(cut)
    row = _telling_row(book)
    if many == 0:
        return row_counted(book.prime, row, book.one)
    led = Joiner(book.prime, book.joins).power(_handle_of(book, row), many)
    return row_counted(book.prime, row, led)
