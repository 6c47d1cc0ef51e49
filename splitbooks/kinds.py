"""The simple leads of a splitbook, up to likeness, and their kinds."""

from splitbooks.blocks import Rest
from splitbooks.checks import need_book
from splitbooks.fading import fading_things
from splitbooks.idempotents import at_places
from splitbooks.linear import cube_led, first_place


def leads_on(rest, rows):
    """The leads of all things on sums of rows, a tidy list, of the rest of a splitbook."""
    places = [first_place(row) for row in rows]
    cube = [[at_places(line, places) for line in square] for square in rest.joins]
    return cube_led(cube, rest.down, rows, None, rest.prime)


def traces_of(prime, leads):
    """The row that tells of each thing the trace of its square."""
    return tuple([sum([row[at] for at, row in enumerate(square)]) % prime for square in leads])


def kinds_of(book):
    """The Rest of the book, and the ascending list of (kind, leads, part) for its simple kinds."""
    rest = Rest(book.prime, book.joins, book.one, fading_things(book))
    found = []
    for part in rest.parts:
        lot = rest.lot(part)
        degree = rest.degree(part, lot)
        # The lot of a least part is simple: there is nothing between it and 0.
        least = rest.least_part(part, lot, degree)
        leads = leads_on(rest, lot if least == part else rest.lot(least))
        kind = (len(leads[0]), degree, traces_of(book.prime, leads))
        found.append((kind, leads, part))
    return rest, sorted(found)


def simple_leads(book):
    """The list of simple leads, such that all simple leads are alike to just one of them."""
    need_book(book)
    return [leads for _, leads, _ in kinds_of(book)[1]]


def simple_kinds(book):
    """The ascending list of (size, degree, row) of all simple leads: row tells the traces of their squares."""
    need_book(book)
    return [kind for kind, _, _ in kinds_of(book)[1]]
