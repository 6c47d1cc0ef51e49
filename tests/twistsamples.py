"""Twists to try things on: those that things make of the pair of one and one, and those of functions on groups."""

import functools

from splitbooks.bases import beside, in_basis, joins_turned, other_way, splits_turned
from splitbooks.families import group_book, shift_book
from splitbooks.strands import thing_undone
from splitbooks.twists import led_twist, twisted
from splitbooks.twisttables import twists
from tests import dense, plainly, samples
from tests.roomsamples import some_books


def plain_twist(book):
    """The pair of one and one."""
    return plainly.pair(book.prime, book.one, book.one)


def things_to_lead(book, many):
    """Things of count 1 that can be undone, other than one, as far as they are found."""
    found = []
    for seed in range(40):
        thing = samples.some_things(book, 1, seed)[0]
        count = plainly.count(book.prime, book.counts, thing)
        if count:
            thing = tuple(pow(count, -1, book.prime) * number % book.prime for number in thing)
            if thing not in found and thing != book.one and thing_undone(book, thing) is not None:
                found.append(thing)
    return found[:many]


def functions_twist(prime, table, numbers):
    """The square of numbers(g, h), a twist of the other way of a group's splitbook if numbers go round."""
    return tuple(tuple(numbers(g, h) % prime for h in range(len(table))) for g in range(len(table)))


def square_in_basis(square, rows, prime):
    """The square of pairs of things as one of pairs of rows."""
    back = dense.undone(rows, prime)
    return plainly.lead_halves(prime, square, back, back)


def signs_within(book, table):
    """The book of a group and the twist by signs of two things of it that are undone by themselves, and go past."""
    prime, n = book.prime, book.size
    twos = [x for x in range(1, n) if table[x][x] == 0]
    a, b = next((x, y) for x in twos for y in twos if x != y and table[x][y] == table[y][x])
    four = [0, b, a, table[a][b]]
    quarter = pow(4, -1, prime)
    square = [[0] * n for _ in range(n)]
    for g in range(4):
        for h in range(4):
            sign = -1 if g // 2 and h % 2 else 1
            for j in range(4):
                for k in range(4):
                    told = g // 2 * (j // 2) + g % 2 * (j % 2) + h // 2 * (k // 2) + h % 2 * (k % 2)
                    square[four[j]][four[k]] += sign * (-1 if told % 2 else 1) * quarter * quarter
    return book, tuple(tuple(number % prime for number in row) for row in square)


@functools.lru_cache(None)
def some_twists():
    """(book, twist) by name."""
    found = {}
    for name, book in some_books().items():
        if book.size <= 6:
            found[name + ": plain"] = (book, plain_twist(book))
            for at, thing in enumerate(things_to_lead(book, 2)):
                found[f"{name}: led {at}"] = (book, led_twist(book, plain_twist(book), thing))
    two = group_book(3, samples.cyclic(2))
    for at, square in enumerate(twists(two)):
        found[f"two over 3: {at}"] = (two, square)
    # Pairs of signs: i and j of the two turns of FOUR, the sign of the first one of g and the second one of h.
    for prime in (3, 5, 97):
        functions = other_way(group_book(prime, samples.FOUR))
        signs = functions_twist(prime, samples.FOUR, lambda g, h: -1 if g // 2 and h % 2 else 1)
        found[f"signs over {prime}"] = (functions, signs)
        rows = samples.some_basis(4, prime, 8)
        found[f"signs over {prime}, other basis"] = (in_basis(functions, rows), square_in_basis(signs, rows, prime))
    # The same within a group that is not all of these turns: read by a leading, which twists go along with.
    eight = other_way(group_book(5, samples.beside_groups(samples.cyclic(2), samples.FOUR)))
    found["signs of eight"] = (eight, functions_twist(5, [0] * 8, lambda g, h: -1 if g // 2 % 2 and h % 2 else 1))
    # The group book of FOUR over 3 is alike its other way: so the sums of things that tell signs do.
    four = group_book(3, samples.FOUR)
    tell = [tuple((-1 if (g // 2 * (h // 2) + g % 2 * (h % 2)) % 2 else 1) for h in range(4)) for g in range(4)]
    square = [[0] * 4 for _ in range(4)]
    for g in range(4):
        for h in range(4):
            sign = -1 if g // 2 and h % 2 else 1
            for j in range(4):
                for k in range(4):
                    square[j][k] += sign * tell[g][j] * tell[h][k]
    found["signs of four turns"] = (four, tuple(tuple(number % 3 for number in row) for row in square))
    found["signs in eight"] = signs_within(group_book(3, samples.EIGHT), samples.EIGHT)
    found["signs in twelve"] = signs_within(group_book(5, samples.TWELVE), samples.TWELVE)
    turns = samples.beside_groups(samples.SIX, samples.cyclic(2))
    found["signs in turns of six"] = signs_within(group_book(5, turns), turns)
    # Beside a shift, where things may not be exchanged.
    mixed = beside(shift_book(3, 2, 2), other_way(group_book(3, samples.cyclic(2))))
    for at, thing in enumerate(things_to_lead(mixed, 1)):
        found[f"mixed: led {at}"] = (mixed, led_twist(mixed, plain_twist(mixed), thing))
    for name in ("shift 2 over 3, other way, other basis", "slip 2", "slip 2, other way"):
        book = samples.books()[name]
        for made in (joins_turned, splits_turned):
            for at, thing in enumerate(things_to_lead(made(book), 1)):
                found[f"{name}, {made.__name__}: led {at}"] = (
                    made(book), led_twist(made(book), plain_twist(made(book)), thing))
    for at, square in enumerate(twists(samples.books()["slip 2"])):
        found[f"slip 2: {at}"] = (samples.books()["slip 2"], square)
    return found


@functools.lru_cache(None)
def twisted_books():
    """twisted of some_twists, by name."""
    return {name: twisted(book, square) for name, (book, square) in some_twists().items()}
