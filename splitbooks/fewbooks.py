"""All splitbooks of few things, up to likeness: which one a splitbook is alike to, and by what likeness."""

from splitbooks.bases import other_way
from splitbooks.betweens import betweens
from splitbooks.brackets import bracket_book
from splitbooks.checks import need_book, need_two_books
from splitbooks.errors import BadNumber
from splitbooks.evens import even_brackets, even_leading
from splitbooks.families import group_book, shift_book
from splitbooks.fieldbooks import FieldBook, field_likeness
from splitbooks.linear import across, combined, inverse, plain
from splitbooks.selfsplit import selfsplit_things
from splitbooks.tables import rows_joined
from splitbooks.values import is_number_within, need_prime

THREE_TURNS = ((0, 1, 2), (1, 2, 0), (2, 0, 1))
FOUR_TURNS = ((0, 1, 2, 3), (1, 2, 3, 0), (2, 3, 0, 1), (3, 0, 1, 2))
FOUR_SIGNS = ((0, 1, 2, 3), (1, 0, 3, 2), (2, 3, 0, 1), (3, 2, 1, 0))


def need_few_size(prime, size):
    """BadNumber("size") unless size is a number from 1 to 3, or 4 where the prime is not 2."""
    if not is_number_within(size, 1, 3 if prime == 2 else 4):
        raise BadNumber("size")


def _field_of(prime, word):
    """The FieldBook of a word."""
    if word == "three turns":
        return FieldBook(prime, THREE_TURNS, [0], [1, 2])
    if word == "four turns":
        return FieldBook(prime, FOUR_TURNS, [0, 2], [1, 3])
    if word == "four signs":
        return FieldBook(prime, FOUR_SIGNS, [0, 3], [1, 2])
    return FieldBook(prime, FOUR_SIGNS, [0], [1, 2, 3])


def _entries(prime, size):
    """The list of what makes the books of few_books: a word, and what belongs to it."""
    if size == prime:
        return [("brackets", power) for power in range(prime)] + [("rows", power) for power in range(1, prime)]
    if size < 3:
        return [("group", tuple([row[:size] for row in FOUR_SIGNS[:size]]))]
    if size == 3:
        # The rows of the group are those of a greater field just if the field has no roots of three turns.
        return [("group", THREE_TURNS), ("field", "three turns") if prime > 2 else ("group rows", THREE_TURNS)]
    fields = [("field", "four turns"), ("field", "four signs"), ("field", "three of four signs")]
    return [("group", FOUR_TURNS), ("group", FOUR_SIGNS)] + fields + [("shift", prime - 1)]


def _book_of(prime, entry):
    """The splitbook that an entry makes."""
    word, rest = entry
    if word == "group":
        return group_book(prime, rest)
    if word == "group rows":
        return other_way(group_book(prime, rest))
    if word == "brackets":
        return bracket_book(prime, [[[0]]], [[rest]])
    if word == "rows":
        return other_way(bracket_book(prime, [[[0]]], [[rest]]))
    if word == "field":
        return _field_of(prime, rest).book_made()
    return shift_book(prime, 2, rest)


def few_books(prime, size):
    """The list of splitbooks of this size, each splitbook of this size being alike to just one of them."""
    need_prime(prime)
    need_few_size(prime, size)
    return [_book_of(prime, entry) for entry in _entries(prime, size)]


def _entry_for(book):
    """The entry of the one of few_books that is alike to book."""
    prime = book.prime
    if book.size == prime:
        powers = even_brackets(book)[1]
        if powers:
            return ("brackets", powers[0][0])
        # There are no evens: so the rows have some.
        return ("rows", even_brackets(other_way(book))[1][0][0])
    many = len(selfsplit_things(book))
    if book.size < 3:
        return _entries(prime, book.size)[0]
    if book.size == 3:
        return _entries(prime, 3)[0 if many == 3 else 1]
    if book.joins != across(book.joins):
        return ("shift", prime - 1)
    if book.back != plain(4):
        return ("group", FOUR_TURNS) if many == 4 else ("field", "four turns")
    if many == 4:
        return ("group", FOUR_SIGNS)
    return ("field", "four signs") if many == 2 else ("field", "three of four signs")


def few_place(book):
    """The index, in few_books, of the one that is alike to book."""
    need_book(book)
    need_few_size(book.prime, book.size)
    return _entries(book.prime, book.size).index(_entry_for(book))


def _group_likeness(book, table):
    """The likeness from the splitbook of a group of at most four things."""
    prime = book.prime
    others = selfsplit_things(book)[1:]
    if table == FOUR_SIGNS:
        return (book.one, others[0], others[1], rows_joined(prime, book.joins, others[0], others[1]))
    rows = [book.one]
    for maker in others:
        # The first one that makes all of them.
        rows = [book.one, maker]
        while len(rows) < book.size and rows[-1] != book.one:
            rows.append(rows_joined(prime, book.joins, rows[-1], maker))
        if rows[-1] != book.one:
            return tuple(rows)
    return tuple(rows)


def _shift_likeness(book):
    """The likeness from a shift_book of order 2."""
    prime = book.prime
    joins = book.joins
    turn = selfsplit_things(book)[1]
    for row in betweens(book, book.one, turn):
        # What turning about by the selfsplit thing leaves is taken off.
        turned = rows_joined(prime, joins, turn, rows_joined(prime, joins, row, turn))
        shift = combined([1, -1], [row, turned], prime)
        if any(shift):
            return (book.one, shift, turn, rows_joined(prime, joins, turn, shift))
    return None


def few_likeness(book):
    """A likeness from the one of few_books that is alike to book to book."""
    need_book(book)
    need_few_size(book.prime, book.size)
    word, rest = _entry_for(book)
    prime = book.prime
    if word == "group":
        return _group_likeness(book, rest)
    if word == "group rows":
        return inverse(across(_group_likeness(other_way(book), rest)), prime)
    if word == "brackets":
        return even_leading(book)
    if word == "rows":
        return inverse(across(even_leading(other_way(book))), prime)
    if word == "field":
        return field_likeness(_field_of(prime, rest), book)
    return _shift_likeness(book)


def few_alike(one, other):
    """Whether two splitbooks of few things are alike."""
    need_two_books(one, other)
    need_few_size(one.prime, one.size)
    need_few_size(other.prime, other.size)
    return one.size == other.size and _entry_for(one) == _entry_for(other)
