"""Product tables, and what the things of a splitbook do on them."""

from splitbooks.axes import cube_flat, moved, summed
from splitbooks.checks import need_book
from splitbooks.errors import BadDoing, BadNumber, BadRow, BadShape, BadTable, TooMany
from splitbooks.faults import one_fault
from splitbooks.grouping import Grouping
from splitbooks.known import Known
from splitbooks.leadfaults import joined_fault, unmoved_fault
from splitbooks.linear import across, combined, flat, led_all, plain
from splitbooks.makers import makers_of, making_rows
from splitbooks.swallowed import multiplied_by
from splitbooks.turning import turning_leads
from splitbooks.values import (
    cube_of, is_cube, is_listing, is_map, is_number, is_number_within, is_row, is_square, need_prime, row_of, rows_of)

MOST_TABLE = 36


def _table_taken(prime, joins, one):
    """Joins and one modulo the prime, once their shapes are found right."""
    need_prime(prime)
    if not is_listing(joins) or not is_number_within(len(joins), 1, MOST_TABLE) or not is_cube(joins, len(joins)):
        raise BadShape("joins")
    if not is_row(one, len(joins)):
        raise BadShape("one")
    return cube_of(joins, prime), row_of(one, prime)


def _first_fault(prime, joins, one):
    """The tuple of table_fault, or None, for tables that are taken."""
    grouping = Grouping(prime, joins)
    places = grouping.fault()
    return one_fault(grouping, one) if places is None else ("joins",) + places


def table_fault(prime, joins, one):
    """None if these are a product table, otherwise a tuple that tells the first wrong place."""
    joins, one = _table_taken(prime, joins, one)
    return _first_fault(prime, joins, one)


def _right_table(prime, joins, one):
    """Joins and one modulo the prime; the errors of table_fault, or BadTable with what it tells."""
    if isinstance(joins, Known) and isinstance(one, Known):
        return joins.table, one.table
    joins, one = _table_taken(prime, joins, one)
    fault = _first_fault(prime, joins, one)
    if fault is not None:
        raise BadTable(fault)
    return joins, one


class ProductTable:
    """Things that are joined, and a one."""

    def __init__(self, prime, joins, one):
        joins, one = _right_table(prime, joins, one)
        self.prime = prime
        self.size = len(joins)
        self.joins = joins
        self.one = one

    def __eq__(self, other):
        return (isinstance(other, ProductTable) and self.prime == other.prime and self.joins == other.joins
                and self.one == other.one)


def need_table(table):
    """BadTable(None) unless a ProductTable is given."""
    if not isinstance(table, ProductTable):
        raise BadTable(None)


def need_book_and_table(book, table):
    """BadBook(None), BadTable(None) unless these are given, BadShape("prime") unless their primes are one."""
    need_book(book)
    need_table(table)
    if book.prime != table.prime:
        raise BadShape("prime")


def need_few_in_table(many):
    """TooMany(36) if these are more things than a product table may have."""
    if many > MOST_TABLE:
        raise TooMany(MOST_TABLE)


def book_table(book):
    """The product table of the joins and the one of a splitbook."""
    need_book(book)
    return ProductTable(book.prime, Known(book.joins), Known(book.one))


def full_table(table, wide):
    """The product table of squares with wide rows of wide things of table."""
    need_table(table)
    if not is_number(wide) or wide < 1:
        raise BadNumber("wide")
    need_few_in_table(table.size * wide * wide)
    places = range(wide)
    things = [(a, i, j) for a in range(table.size) for i in places for j in places]
    joins = []
    for a, i, j in things:
        rows = []
        for b, k, m in things:
            # At row i, place m alone, if the places in between are the same.
            row = table.joins[a][b] if j == k else (0,) * table.size
            rows.append([number if (r, s) == (i, m) else 0 for number in row for r in places for s in places])
        joins.append(rows)
    one = [number if r == s else 0 for number in table.one for r in places for s in places]
    return ProductTable(table.prime, Known(cube_of(joins, table.prime)), Known(tuple(one)))


def is_table_leading(one, other, thing):
    """Whether thing, any value, is a map from one to other that leads one to one and what is joined to what is."""
    need_table(one)
    need_table(other)
    if one.prime != other.prime:
        raise BadShape("prime")
    if not is_map(thing, one.size, other.size):
        return False
    prime = one.prime
    rows = rows_of(thing, prime)
    if combined(one.one, rows, prime) != other.one:
        return False
    flats = [flat(square) for square in other.joins]
    # What is right for two things, ahead of all others, is right for what they are joined to.
    for a, ahead in making_rows(prime, one.joins):
        led = summed(flat(rows), combined(combined(a, rows, prime), flats, prime), other.size, prime)
        if flat(led_all(ahead, rows, prime)) != led:
            return False
    return True


def _counts_fault(book, table, doing):
    """The least i that does not lead the one of the table to its count times it, or None."""
    for i, square in enumerate(doing):
        if combined(table.one, square, book.prime) != combined([book.counts[i]], [table.one], book.prime):
            return i
    return None


def _leads_halves(book, table, doing, pairs):
    """Whether all things of the book lead a joined to b as the halves of their splits lead both, for all a, b.

    What is right for two things a of the table is right for what they are joined to: so the making_rows, pairs,
    will do.
    """
    prime = book.prime
    many = book.size
    size = table.size
    joins = cube_flat(table.joins)
    numbers = cube_flat(doing)
    halves = moved(cube_flat(book.splits), [many] * 3, [0, 2, 1])
    # At b, q, b': q leads b to b'. At m, i, c: i leads m to c.
    last = moved(numbers, [many, size, size], [1, 0, 2])
    for a, ahead in pairs:
        # At i, q, b', c: what the first half of i that stands beside q leads a to, joined to b'.
        led = summed(flat([combined(a, square, prime) for square in doing]), joins, size, prime)
        led = moved(summed(halves, led, many, prime), [many, many, size, size], [1, 2, 0, 3])
        if summed(last, led, many * size, prime) != summed(flat(ahead), last, size, prime):
            return False
    return True


def _both_fault(book, table, doing):
    """The least i, a, b for which i does not lead a joined to b as the halves of its split lead both, or None."""
    prime = book.prime
    many = book.size
    size = table.size
    joins = cube_flat(table.joins)
    # At p, a, b', c: what p leads a to, joined to b'. At b, q, b': q leads b to b'.
    first = summed(cube_flat(doing), joins, size, prime)
    last = moved(cube_flat(doing), [many, size, size], [1, 0, 2])
    # What is right for two things of the book is right for what they are joined to: the least one is a maker.
    for i in makers_of(prime, book.joins):
        halves = summed(flat(across(book.splits[i])), first, many, prime)
        halves = moved(halves, [many, size, size, size], [0, 2, 1, 3])
        wanted = moved(summed(last, halves, many * size, prime), [size] * 3, [1, 0, 2])
        found = summed(joins, flat(doing[i]), size, prime)
        if found != wanted:
            places = [place for place, number in enumerate(found) if number != wanted[place]]
            return (i, places[0] // (size * size), places[0] // size % size)
    return None


def _fault_of_doing(book, table, doing):
    """The tuple of doing_fault but for ("shape",), or None, for a doing that is taken."""
    place = unmoved_fault(book.prime, book.one, doing)
    if place is not None:
        return ("one", place)
    places = joined_fault(book.prime, book.joins, doing)
    if places is not None:
        return ("joins",) + places
    place = _counts_fault(book, table, doing)
    if place is not None:
        return ("counts", place)
    # It is quicker to look at few things of the table, unless it takes many of them to make all others.
    pairs = making_rows(book.prime, table.joins)
    few = len(pairs) * book.size <= len(makers_of(book.prime, book.joins)) * table.size
    if few and _leads_halves(book, table, doing, pairs):
        return None
    places = _both_fault(book, table, doing)
    return None if places is None else ("both",) + places


def _is_doing_shape(book, table, value):
    """Whether value is a list of book.size squares of size table.size."""
    return is_listing(value) and len(value) == book.size and all([is_square(item, table.size) for item in value])


def doing_fault(book, table, doing):
    """None if doing, any value, is a doing of the book on the table, otherwise what tells the first wrong place."""
    need_book_and_table(book, table)
    if not _is_doing_shape(book, table, doing):
        return ("shape",)
    return _fault_of_doing(book, table, cube_of(doing, book.prime))


def is_doing(book, table, doing):
    """Whether doing, any value, is a doing of the book on the table."""
    return doing_fault(book, table, doing) is None


def doing_of(book, table, doing):
    """The doing that is handed in, modulo the prime; BadDoing with the tuple of doing_fault if it is none."""
    fault = doing_fault(book, table, doing)
    if fault is not None:
        raise BadDoing(fault)
    return cube_of(doing, book.prime)


def done(book, table, doing, first, second):
    """The thing of the table to which a thing of the book leads one of the table."""
    doing = doing_of(book, table, doing)
    if not is_row(first, book.size):
        raise BadRow("a thing of the splitbook is wanted")
    if not is_row(second, table.size):
        raise BadRow("a thing of the table is wanted")
    prime = book.prime
    second = row_of(second, prime)
    return combined(row_of(first, prime), [combined(second, square, prime) for square in doing], prime)


def unmoved(book, table, doing):
    """The tidy list of the things of the table that each thing of the book leads to its count times them."""
    doing = doing_of(book, table, doing)
    return multiplied_by(book.prime, doing, book.counts)


def plain_doing(book, table):
    """The doing by which each thing leads all to its count times it."""
    need_book_and_table(book, table)
    return tuple([tuple([tuple([count * number for number in row]) for row in plain(table.size)])
                  for count in book.counts])


def turning_doing(book):
    """The doing on book_table(book) by which each thing turns things about."""
    need_book(book)
    return turning_leads(book)
