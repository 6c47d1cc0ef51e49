"""Splitbooks whose things are products of a few makers."""

from splitbooks.books import Splitbook
from splitbooks.linear import led_all, paired, plain, unit
from splitbooks.tables import squares_met


def pair_square(size, first, second):
    """The square of the pair of thing first and thing second."""
    return paired(unit(size, first), unit(size, second))


def sum_of_squares(one, other):
    """The sum of two squares."""
    return tuple([tuple([number + more for number, more in zip(row, line)]) for row, line in zip(one, other)])


def grown_book(prime, words, leaders, splits, counts):
    """The splitbook whose thing k is the product of the makers that the tuple words[k] tells, thing 0 being one.

    Joined to any thing, maker m makes what the map leaders[m] leads it to; splits[m] and counts[m]
    are its split and its count. Each word without its first maker stands somewhere ahead of it.
    """
    size = len(words)
    place_of = {word: place for place, word in enumerate(words)}
    steps = [(word[0], place_of[word[1:]]) for word in words[1:]]
    joins = [plain(size)]
    for maker, rest in steps:
        joins.append(led_all(joins[rest], leaders[maker], prime))
    squares = [pair_square(size, 0, 0)]
    numbers = [1]
    for maker, rest in steps:
        squares.append(squares_met(prime, joins, splits[maker], squares[rest]))
        numbers.append(counts[maker] * numbers[rest])
    return Splitbook(prime, joins, unit(size, 0), squares, numbers)
