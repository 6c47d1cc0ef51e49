"""What the document says of twists, number by number: slow, and apart from the package."""

from tests import plainly, samples


def pairs(square):
    """(a, b, number) for the pairs of a square, number not 0."""
    return [(a, b, number) for a, row in enumerate(square) for b, number in enumerate(row) if number]


def triples(book, square, firsts):
    """(c a1, d a2, b) over the pairs (a, b), (c, d), or, if not firsts, (a, c b1, d b2), as a dict of numbers."""
    prime = book.prime
    found = {}
    for a, b, number in pairs(square):
        halves = book.splits[a] if firsts else book.splits[b]
        met = plainly.join_squares(prime, book.joins, square, halves)
        for m, n, more in pairs(met):
            place = (m, n, b) if firsts else (a, m, n)
            found[place] = (found.get(place, 0) + number * more) % prime
    return {place: number for place, number in found.items() if number}


def undone(book, square):
    """The square that, joined to it half by half in either sequence, is the pair of one and one; None if none is."""
    prime, n = book.prime, book.size
    one = plainly.pair(prime, book.one, book.one)
    columns = []
    for j in range(n):
        for k in range(n):
            unit = plainly.pair(prime, samples.unit(n, j), samples.unit(n, k))
            columns.append([x for row in plainly.join_squares(prime, book.joins, square, unit) for x in row])
    wanted = [x for row in one for x in row]
    equations = [[column[at] for column in columns] + [wanted[at]] for at in range(n * n)]
    numbers = plainly.solved(equations, n * n, prime)
    if numbers is None:
        return None
    found = tuple(tuple(numbers[j * n:(j + 1) * n]) for j in range(n))
    if plainly.join_squares(prime, book.joins, found, square) != one:
        return None
    return found


def is_twist(book, square):
    """Whether a square of numbers from 0 on is a twist."""
    prime, n = book.prime, book.size
    firsts = tuple(sum(book.counts[j] * square[j][k] for j in range(n)) % prime for k in range(n))
    seconds = tuple(sum(book.counts[k] * square[j][k] for k in range(n)) % prime for j in range(n))
    if firsts != book.one or seconds != book.one:
        return False
    if triples(book, square, True) != triples(book, square, False):
        return False
    return undone(book, square) is not None


def thing_undone(book, thing):
    """The thing that, joined to thing, is one."""
    n = book.size
    columns = [plainly.join(book.prime, book.joins, thing, unit) for unit in samples.plain(n)]
    equations = [[column[at] for column in columns] + [book.one[at]] for at in range(n)]
    found = plainly.solved(equations, n, book.prime)
    return None if found is None else tuple(found)


def leader(book, square):
    """The sum of a joined to the back of b."""
    total = [0] * book.size
    for a, b, number in pairs(square):
        row = plainly.join(book.prime, book.joins, samples.unit(book.size, a), book.back[b])
        total = [so_far + number * more for so_far, more in zip(total, row)]
    return tuple(number % book.prime for number in total)
