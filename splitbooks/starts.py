"""Starts: tuples that tell a splitbook of one of the families."""

from splitbooks.brackets import bracket_book
from splitbooks.errors import BadStart
from splitbooks.families import group_book, shift_book, slip_book
from splitbooks.values import cube_of, rows_of

LENGTHS = (("group", 3), ("shift", 4), ("slip", 2), ("brackets", 4))


def is_worded(value, lengths):
    """Whether value is a tuple with a word first, which lengths has in a pair with the number of its items."""
    if not isinstance(value, tuple) or len(value) == 0 or not isinstance(value[0], str):
        return False
    return (value[0], len(value)) in lengths


def book_of_start(start):
    """The splitbook of a start: BadStart, or the errors of its family."""
    if not is_worded(start, LENGTHS):
        raise BadStart("a tuple of a family's word and of what the family wants")
    word = start[0]
    if word == "group":
        return group_book(start[1], start[2])
    if word == "shift":
        return shift_book(start[1], start[2], start[3])
    if word == "slip":
        return slip_book(start[1])
    return bracket_book(start[1], start[2], start[3])


def start_kept(start):
    """A start that is found right, with all its lists as tuples, a root, brackets and powers modulo the prime."""
    word = start[0]
    prime = start[1]
    if word == "group":
        return (word, prime, tuple([tuple(row) for row in start[2]]))
    if word == "shift":
        return (word, prime, start[2], start[3] % prime)
    if word == "slip":
        return start
    return (word, prime, cube_of(start[2], prime), rows_of(start[3], prime))
