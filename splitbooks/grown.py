"""Splitbooks whose things are products of a few makers."""

from splitbooks.books import Splitbook
from splitbooks.linear import led_all, paired, plain, unit


def pair_square(size, first, second):
    """The square of the pair of thing first and thing second."""
    return paired(unit(size, first), unit(size, second))


def sum_of_squares(one, other):
    """The sum of two squares."""
    return tuple([tuple([number + more for number, more in zip(row, line)]) for row, line in zip(one, other)])


def entries_of(row):
    """The pairs of the places of the numbers of a row that are not 0 and these numbers."""
    return [(place, number) for place, number in enumerate(row) if number]


def joined_by_halves(prime, few, first, second):
    """Two squares joined half by half; few has at a, b the entries_of what things a and b are joined to.

    In the squares of words nearly all numbers are 0, so this goes by those that are not.
    """
    sums = [[0] * len(second) for _ in second]
    pairs = [(c, d, number) for c, row in enumerate(second) for d, number in entries_of(row)]
    for a, row in enumerate(first):
        for b, number in entries_of(row):
            for c, d, more in pairs:
                for x, one in few[a][c]:
                    for y, other in few[b][d]:
                        sums[x][y] = (sums[x][y] + number * more * one * other) % prime
    return sums


def grown_book(prime, words, leaders, splits, counts):
    """The splitbook whose thing k is the product of the makers that the tuple words[k] tells, thing 0 being one.

    Joined to any thing, maker m makes what the map leaders[m] leads it to; splits[m] and counts[m]
    are its split and its count. Each word without its first maker stands somewhere ahead of it.
    """
    size = len(words)
    place_of = {word: place for place, word in enumerate(words)}
    steps = [(word[0], place_of[word[1:]]) for word in words[1:]]
    joins = [plain(size)]
    for maker, rest in steps:
        joins.append(led_all(joins[rest], leaders[maker], prime))
    few = [[entries_of(row) for row in rows] for rows in joins]
    squares = [pair_square(size, 0, 0)]
    numbers = [1]
    for maker, rest in steps:
        squares.append(joined_by_halves(prime, few, splits[maker], squares[rest]))
        numbers.append(counts[maker] * numbers[rest])
    return Splitbook(prime, joins, unit(size, 0), squares, numbers)
