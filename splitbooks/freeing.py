"""Lists of things over which a splitbook is free: each thing is, in just one way, made of them and a side span."""

from splitbooks.blocks import Rest
from splitbooks.checks import need_book
from splitbooks.errors import BadInner
from splitbooks.fading import fading_of, tracing_of
from splitbooks.idempotents import at_places
from splitbooks.inner import span_of
from splitbooks.joiners import Joiner
from splitbooks.linear import across, combined, cube_led, first_place, flat, led_all, tidy_list
from splitbooks.spans import span_fault
from splitbooks.stairs import Stairs
from splitbooks.tables import all_joined
from splitbooks.values import is_row_list, rows_of


def side_of_any(book, things):
    """The tidy list of a side span of either side; BadRow, or BadInner with what side_fault tells for side 0."""
    tidy = span_of(book, things)
    fault = span_fault(book, tidy, (0,))
    if fault is not None and span_fault(book, tidy, (1,)) is not None:
        raise BadInner(fault)
    return tidy


def _is_free(prime, joins, rows, thing):
    """Whether thing, any value, is a list of things such that rows joined to them make each thing in just one way."""
    size = len(joins)
    if not is_row_list(thing, size) or len(thing) * len(rows) != size:
        return False
    made = flat(all_joined(prime, joins, rows, rows_of(thing, prime)))
    return len(tidy_list(made, prime)) == size


def is_free_left(book, things, thing):
    """Whether thing, any value, is a list of things that is free on the left over a span."""
    need_book(book)
    return _is_free(book.prime, book.joins, side_of_any(book, things), thing)


def is_free_right(book, things, thing):
    """Whether thing, any value, is a list of things that is free on the right over a span."""
    need_book(book)
    return _is_free(book.prime, across(book.joins), side_of_any(book, things), thing)


class FreeSearch:
    """The search for things over which all joins are free from the left over a span, told by its tidy list.

    It is enough that they are free up to what the fading things of the span are joined to. Up to these the span
    falls into blocks, each like the squares of some size of numbers of a field, and all of a block is made of a
    least part. As many things as these squares have rows, led by the least part to things of which none is made
    by the others, and then led apart by other rows of the block, have a sum of which the block makes as much as
    it can; the sum of these sums for all blocks is the next thing.
    """

    def __init__(self, prime, joins, one, rows):
        places = [first_place(row) for row in rows]
        table = [[at_places(row, places) for row in line] for line in all_joined(prime, joins, rows, rows)]
        fading = fading_of(prime, table, tracing_of(prime, table))
        self.prime = prime
        self.size = len(joins)
        self.joins = joins
        self.one = one
        self.span = rows
        self.joiner = Joiner(prime, joins)
        self.quotient = Rest(prime, table, at_places(one, places), fading)
        # What is joined to fading things of the span, and then all that is made already.
        self.made = Stairs(prime, self.size)
        if fading:
            self.take(flat(cube_led(joins, led_all(fading, rows, prime), None, None, prime)))
        self.blocks = [self.block(part) for part in self.quotient.parts]

    def take(self, rows):
        """Takes rows as made already."""
        for row in rows:
            self.made.taken(row)

    def thing(self, row):
        """The thing of the span that a row of its rest stands for."""
        return combined(self.quotient.up(row), self.span, self.prime)

    def block(self, part):
        """A least part of the block of part, and rows that, joined to its corner, make its lot in just one way."""
        rest = self.quotient
        lot = rest.lot(part)
        least = rest.least_part(part, lot, rest.degree(part, lot))
        lot = rest.lot(least)
        corner = rest.corner(least, lot)
        found = []
        made = Stairs(self.prime, len(least))
        for row in lot:
            if any(made.rest(row)):
                found.append(self.thing(row))
                for line in led_all(corner, rest.joiner.leader(row), self.prime):
                    made.taken(line)
        return self.thing(least), found

    def more(self):
        """A further thing that is free, together with all those taken so far; what it makes is taken."""
        total = (0,) * self.size
        for least, makers in self.blocks:
            waiting = list(makers)
            for place, row in enumerate(self.joiner.leader(least)):
                if waiting and any(self.made.rest(row)):
                    self.take(flat(all_joined(self.prime, self.joins, self.span, [row])))
                    # What the least part leads thing place to is led on by the makers, each beside another thing.
                    maker = self.joiner.leader(waiting.pop())
                    total = combined([1, 1], [total, maker[place]], self.prime)
        return total

    def found(self):
        """The list of things that are free, one first."""
        things = [self.one]
        self.take(self.span)
        for _ in range(self.size // len(self.span) - 1):
            things.append(self.more())
        return things


def _free_things(book, joins, rows):
    """A list of things over which joins are free from the left over a span, one first."""
    if len(rows) == book.size:
        return [book.one]
    return FreeSearch(book.prime, joins, book.one, rows).found()


def free_left(book, things):
    """A list of things that is free on the left over a side span; it begins with one."""
    need_book(book)
    return _free_things(book, book.joins, side_of_any(book, things))


def free_right(book, things):
    """A list of things that is free on the right over a side span; it begins with one."""
    need_book(book)
    return _free_things(book, across(book.joins), side_of_any(book, things))
