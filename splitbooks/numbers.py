"""How often simple kinds come in hulls, and in two of them beside one another."""

from splitbooks.books import MOST_THINGS
from splitbooks.checks import need_book
from splitbooks.joiners import Joiner, led_behind
from splitbooks.kinds import kinds_of, simple_kinds
from splitbooks.linear import across, combined, cube_led, first_place, flat, led_all, tidy_list, unit
from splitbooks.packs import Fields, total
from splitbooks.tables import row_split


def sharpened(joiner, row):
    """The power of row that, joined to itself, is itself: row is so up to what fades."""
    # What fades within sums of powers of row is 0 once it stands there as often as there are things.
    exponent = 1
    while exponent < MOST_THINGS:
        row = joiner.power(row, joiner.prime)
        exponent = exponent * joiner.prime
    return row


def things_of_parts(book, rest, parts):
    """Things that, up to fading ones, are the parts: each joined to itself is itself, to others 0; their sum is one."""
    prime = book.prime
    joiner = Joiner(prime, book.joins)
    left = book.one
    found = []
    for part in parts[:-1]:
        # What is joined to left from both sides is joined to the things found already to 0.
        row = joiner.joined(joiner.joined(left, rest.up(part)), left)
        found.append(sharpened(joiner, row))
        left = combined([1, -1], [left, found[-1]], prime)
    return found + [left]


def kind_things(book):
    """A thing for each simple kind: it leads rows of this kind to themselves, those of others to 0."""
    need_book(book)
    rest, kinds = kinds_of(book)
    return things_of_parts(book, rest, [part for _, _, part in kinds])


def hull_numbers(book):
    """At i, k how often kind k comes in the hull of kind i."""
    need_book(book)
    rest, kinds = kinds_of(book)
    prime = book.prime
    things = things_of_parts(book, rest, [part for _, _, part in kinds])
    joiner = Joiner(prime, book.joins)
    leaders = [joiner.leader(thing) for thing in things]
    sizes = [size for (size, _, _), _, _ in kinds]
    rows = []
    for thing, (kind, _, _) in zip(things, kinds):
        lot = tidy_list(led_behind(prime, book.joins, thing), prime)
        ranks = [len(tidy_list(led_all(lot, leader, prime), prime)) for leader in leaders]
        often = kind[0] // kind[1]
        rows.append(tuple([rank // (size * often) for rank, size in zip(ranks, sizes)]))
    return tuple(rows)


def numbers_modulo(book, kinds):
    """At i, j, k the number of beside_numbers modulo the prime: the row of i joined to that of j, told by all rows."""
    prime = book.prime
    rows = [row for (_, _, row), _, _ in kinds]
    many = len(rows)
    told = tidy_list([row + unit(many, at) for at, row in enumerate(rows)], prime)
    places = [first_place(row) for row in told]
    # Of a sum of rows, led so, what it has at these places tells its numbers.
    leader = [row[book.size:] for row in told]
    squares = cube_led([book.splits[place] for place in places], None, rows, across(rows), prime)
    joined = [[tuple([square[i][j] for square in squares]) for j in range(many)] for i in range(many)]
    return [led_all(line, leader, prime) for line in joined]


def led_beside(prime, halves, first, second):
    """The rows to which halves, a square, leads pairs of a row led by first and a row led by second."""
    size = len(second[0])
    wide = len(first[0]) * size
    fields = Fields(prime, wide, len(halves) * prime ** 2)
    # At a, for each row of second, what the second halves beside the first half a lead it to.
    behind = led_all(halves, [flat(square) for square in second], prime)
    packs = [[fields.packed(row[at * size:(at + 1) * size]) for at in range(size)] for row in behind]
    rows = []
    for guest in range(len(first[0])):
        columns = [fields.spread(square[guest], size) for square in first]
        for lines in zip(*packs):
            rows.append(fields.unpacked(total(columns, lines)))
    return rows


def times_beside(prime, halves, first, second, size):
    """How often a kind of this size comes beside: halves are of the split of its thing."""
    return len(tidy_list(led_beside(prime, halves, first, second), prime)) // size


def numbers_beside(prime, kinds, splits, numbers, first, second):
    """The row of beside_numbers for leads first and second; numbers is this row modulo the prime."""
    found = list(numbers)
    sizes = [size for (size, _, _), _, _ in kinds]
    left = len(first[0]) * len(second[0]) - sum([number * size for number, size in zip(numbers, sizes)])
    for k, size in enumerate(sizes):
        # What is left is made of kinds that come prime times.
        if left >= prime * size:
            more = left // size
            if any([left >= prime * other for other in sizes[k + 1:]]):
                more = times_beside(prime, splits[k], first, second, size) - found[k]
            found[k] = found[k] + more
            left = left - more * size
    return tuple(found)


def beside_numbers(book):
    """The cube that has at i, j, k how often kind k comes in kinds i and j beside one another."""
    need_book(book)
    prime = book.prime
    rest, kinds = kinds_of(book)
    things = things_of_parts(book, rest, [part for _, _, part in kinds])
    splits = [row_split(prime, book.splits, thing) for thing in things]
    known = numbers_modulo(book, kinds)
    found = []
    for (_, first, _), squares in zip(kinds, known):
        found.append(tuple([numbers_beside(prime, kinds, splits, numbers, first, second)
                            for (_, second, _), numbers in zip(kinds, squares)]))
    return tuple(found)


def turned_kinds(book):
    """The list that has at i the place of the kind that tells of things what kind i tells of their backs."""
    need_book(book)
    rows = [row for _, _, row in simple_kinds(book)]
    return [rows.index(row) for row in led_all(rows, across(book.back), book.prime)]
