"""Things that fade: with whatever ahead of them, they are 0 once joined to themselves often enough."""

from splitbooks.checks import need_book, thing_of, things_of
from splitbooks.forms import told_joined
from splitbooks.joiners import Joiner
from splitbooks.linear import cube_led, flat, is_sum_of, led_all, plain, tidy_list
from splitbooks.selves import even_handed
from splitbooks.stairs import kernel
from splitbooks.tables import all_joined, row_counted, turned_back_cube


def lot_of(prime, joins, things):
    """The tidy list of what any things are joined to, in front of sums of multiples of some."""
    rows = tidy_list(things, prime)
    if not rows:
        return []
    return tidy_list(flat(cube_led(joins, None, rows, None, prime)), prime)


def left_lot(book, things):
    """The tidy list of the things x joined to y, x any thing and y one of things."""
    need_book(book)
    return lot_of(book.prime, book.joins, things_of(book, things))


def tracing_of(prime, joins):
    """The tidy list of the rows that tell the same of xy and yx, and of the product of prime factors x and of x."""
    # Read the other way, rows that tell the same of xy and yx split evenly to both sides.
    rows = even_handed(prime, turned_back_cube(joins))
    joiner = Joiner(prime, joins)
    differences = []
    # Of sums, too, the product of prime factors less the sum itself is told by those of the things.
    for thing in plain(len(joins)):
        power = joiner.power(thing, prime)
        differences.append([(number - other) % prime for number, other in zip(power, thing)])
    numbers = kernel([[row_counted(prime, row, less) for less in differences] for row in rows], prime)
    return list(led_all(numbers, rows, prime))


def tracing_rows(book):
    """The tidy list of all rows that trace."""
    need_book(book)
    return tracing_of(book.prime, book.joins)


def fading_of(prime, joins, tracing):
    """The tidy list of the things of which, whatever is ahead, all tracing rows tell 0."""
    squares = [told_joined(prime, joins, row) for row in tracing]
    return kernel([flat([[row[at] for row in square] for square in squares]) for at in range(len(joins))], prime)


def fading_things(book):
    """The tidy list of all fading things."""
    need_book(book)
    return fading_of(book.prime, book.joins, tracing_rows(book))


def is_fading(book, thing):
    """Whether a thing is fading."""
    need_book(book)
    thing = thing_of(book, thing)
    return is_sum_of(thing, fading_things(book), book.prime)


def fading_steps(book):
    """The list of the fading things, of these joined to fading ones, and so on, each tidy, while there are any."""
    need_book(book)
    first = fading_things(book)
    steps = []
    rows = first
    while rows:
        steps.append(list(rows))
        rows = tidy_list(flat(all_joined(book.prime, book.joins, first, rows)), book.prime)
    return steps
