"""Starts and deeds to try things on, and what the document says of them."""

import random

from splitbooks.bases import beside, coordinates, in_basis, joins_turned, other_way, splits_turned
from splitbooks.brackets import bracket_book
from splitbooks.doubles import double
from splitbooks.families import group_book, shift_book, slip_book
from splitbooks.twists import twisted
from tests import samples
from tests.twistsamples import plain_twist, things_to_lead

STARTS = {
    "one": ("group", 5, [[0]]),
    "two over 2": ("group", 2, samples.cyclic(2)),
    "two over 3": ("group", 3, [[0, 1], (1, 0)]),
    "three over 7": ("group", 7, samples.cyclic(3)),
    "four over 97": ("group", 97, samples.FOUR),
    "six over 5": ("group", 5, samples.SIX),
    "shift": ("shift", 3, 2, 2),
    "shift over 5": ("shift", 5, 2, -1),
    "shift of four": ("shift", 5, 4, 7),
    "slip": ("slip", 2),
    "slip 3": ("slip", 3),
    "brackets": ("brackets", 2, [[[0]]], [[3]]),
    "brackets 3": ("brackets", 3, (((0,),),), ((-1,),)),
    "slanted": ("brackets", 3, samples.slanted(3)[0], samples.slanted(3)[1]),
}

# Values that are no starts at all.
NO_STARTS = samples.STRANGE + [
    (), ("group",), ("group", 3), ("group", 3, [[0]], 1), ("shift", 3, 2), ("shift", 3, 2, 2, 2), ("slip",), ("slip", 2, 2),
    ("brackets", 2, [[[0]]]), ("brackets", 2, [[[0]]], [[0]], 1), ["slip", 2], ("Slip", 2), ("slips", 2), ("", 2),
    (b"slip", 2), (None, 2), (0, 2), ((), 2), "slip", {"slip": 2}, ("double",), ("other", 2), (["slip"], 2)]


def kept(start):
    """The start as it is told: lists as tuples, a root, brackets and powers modulo the prime."""
    word, prime = start[:2]
    if word == "group":
        return (word, prime, tuple(map(tuple, start[2])))
    if word == "shift":
        return (word, prime, start[2], start[3] % prime)
    if word == "slip":
        return start
    return (word, prime, tuple(tuple(tuple(n % prime for n in row) for row in square) for square in start[2]),
            tuple(tuple(n % prime for n in row) for row in start[3]))


def book_of(start):
    makers = {"group": group_book, "shift": shift_book, "slip": slip_book, "brackets": bracket_book}
    return makers[start[0]](*start[1:])


def done(book, deed):
    """What a deed makes of a book."""
    plain = {"other": other_way, "joins": joins_turned, "splits": splits_turned, "double": double}
    if deed[0] in plain:
        return plain[deed[0]](book)
    if deed[0] == "basis":
        return in_basis(book, deed[1])
    if deed[0] == "twist":
        return twisted(book, deed[1])
    return beside(book, book_of(deed[1]))


def kept_deed(deed, prime):
    if deed[0] in ("basis", "twist"):
        return (deed[0], tuple(tuple(n % prime for n in row) for row in deed[1]))
    if deed[0] == "beside":
        return (deed[0], kept(deed[1]))
    return deed


def led(book, deed, kind, row):
    """What a watched thing or row becomes."""
    prime = book.prime
    if deed[0] == "other":
        return ("row" if kind == "thing" else "thing"), tuple(row)
    if deed[0] == "basis":
        if kind == "thing":
            return kind, coordinates(book, deed[1], row)
        return kind, tuple(sum(a * b for a, b in zip(row, line)) % prime for line in deed[1])
    if deed[0] == "beside":
        other = book_of(deed[1])
        more = other.one if kind == "thing" else other.counts
        return kind, tuple(a * b % prime for a in row for b in more)
    if deed[0] == "double":
        if kind == "thing":
            return kind, tuple(a * b % prime for a in book.counts for b in row)
        return kind, tuple(a * b % prime for a in book.one for b in row)
    return kind, tuple(row)


def some_deed(book, chance):
    """A deed that can be done on a book, of any kind."""
    kinds = ["other", "joins", "splits", "basis", "twist"]
    if book.size <= 4:
        kinds.append("double")
    if book.size <= 8:
        kinds.append("beside")
    word = chance.choice(kinds)
    if word == "basis":
        return (word, samples.some_basis(book.size, book.prime, chance.randrange(100)))
    if word == "twist":
        from splitbooks.twists import led_twist
        things = things_to_lead(book, 1)
        square = led_twist(book, plain_twist(book), things[0]) if things else plain_twist(book)
        return (word, [[n - book.prime for n in row] for row in square])
    if word == "beside":
        return (word, ("group", book.prime, samples.cyclic(chance.choice([1, 2]))))
    return (word,)


def some_deeds(start, many, seed):
    """A list of deeds that can be done, one after the other."""
    chance = random.Random(seed)
    book = book_of(start)
    deeds = []
    for _ in range(many):
        deed = some_deed(book, chance)
        deeds.append(deed)
        book = done(book, deed)
    return deeds


# Values that are no deeds.
NO_DEEDS = samples.STRANGE + [
    (), ("other", 1), ("Other",), ("others",), ["other"], "other", ("basis",), ("basis", []), ("basis", [[1]], 1),
    ("basis", [[1, 0]]), ("basis", [[True]]), ("basis", [[1.0]]), ("basis", None), ("basis", "1"), ("basis", [[1, 0], [0]]),
    ("twist",), ("twist", [[1], [1]]), ("twist", [1]), ("basis", [[0] * 17] * 17), ("twist", [[0] * 17] * 17),
    ("double", ()), ("joins", None), ("splits", 2), ("beside",), ("beside", ("slip", 5)), ("beside", ["slip", 2]),
    ("beside", ("group", 3, [[1]])), ("beside", None), ("beside", ("slip", 2), 1), ("slip", 2), (None,), (b"other",),
    ("group", 3, [[0]]), ("beside", "slip 2"), ("beside", ("beside", ("slip", 2))), (("other",),), ("basis", {0: [1]})]
