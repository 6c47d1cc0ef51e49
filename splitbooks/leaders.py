"""Things that lead maps: joined ahead of a thing, they do what they do behind what the map leads it to."""

from splitbooks.checks import map_of, need_book
from splitbooks.forms import row_form, shifted
from splitbooks.joiners import Joiner, led_behind, row_undone
from splitbooks.linear import combined, led_all, tidy_list
from splitbooks.makers import makers_of
from splitbooks.selfsplit import selfsplit_things
from splitbooks.simples import walls_of
from splitbooks.stairs import kernel
from splitbooks.turners import turner


def _leading_rows(book, rows):
    """The tidy list of the things u for which, for each maker x, u joined to x is what rows leads x to, joined to u."""
    prime = book.prime
    joiner = Joiner(prime, book.joins)
    parts = []
    for x in makers_of(prime, book.joins):
        ahead = [square[x] for square in book.joins]
        parts.append((ahead, joiner.leader(rows[x])))
    numbers = []
    for u in range(book.size):
        row = []
        for ahead, behind in parts:
            row.extend([(number - more) % prime for number, more in zip(ahead[u], behind[u])])
        numbers.append(row)
    return kernel(numbers, prime)


def _is_led(book, thing, rows):
    """Whether thing joined to x is what rows leads x to, joined to thing, for every thing x."""
    ahead = Joiner(book.prime, book.joins).leader(thing)
    return ahead == led_all(rows, led_behind(book.prime, book.joins, thing), book.prime)


def _part_undoable(book, wall, rows):
    """Of rows, joined to a least wall, one that can be undone within it; None if there is none."""
    prime = book.prime
    rest = combined([1, -1], [book.one, wall], prime)
    for row in tidy_list(led_all(rows, Joiner(prime, book.joins).leader(wall), prime), prime):
        if row_undone(prime, book.joins, book.one, combined([1, 1], [row, rest], prime)) is not None:
            return row
    return None


def leader_found(book, rows):
    """A thing that can be undone and leads as the map rows tells; None if there is none."""
    led = _leading_rows(book, rows)
    total = (0,) * book.size
    # If there is one, all others are it joined to things of the middle. In each least wall those of the middle
    # that cannot be undone are all sums of multiples of such: so one of any rows that make all others can be.
    for wall in walls_of(book):
        part = _part_undoable(book, wall, led)
        if part is None:
            return None
        total = combined([1, 1], [total, part], book.prime)
    return total if _is_led(book, total, rows) else None


def leading_thing(book, rows):
    """A thing u that can be undone, u joined to x being what rows leads x to, joined to u; None if there is none."""
    need_book(book)
    return leader_found(book, map_of(book, book, rows))


def square_leader(book):
    """A leading thing of the back put twice; None if there is none."""
    need_book(book)
    return leader_found(book, led_all(book.back, book.back, book.prime))


def selfsplit_leaders(book):
    """The list of the selfsplit things that are leading things of the back put twice."""
    need_book(book)
    twice = led_all(book.back, book.back, book.prime)
    # What is selfsplit is undone by its back.
    return [thing for thing in selfsplit_things(book) if _is_led(book, thing, twice)]


def even_form(book):
    """A form that pairs two things to the same in either sequence; None if there is none."""
    need_book(book)
    thing = leader_found(book, turner(book))
    return None if thing is None else row_form(book, shifted(book, thing))
