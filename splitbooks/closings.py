"""Closed braids: their numbers in a room, and those that no move of the braid changes."""

from splitbooks.braids import excess, need_braid
from splitbooks.crossings import crossing_of
from splitbooks.errors import NoTwist
from splitbooks.linear import combined, flat, folded, led_all, plain, trace_of
from splitbooks.powers import number_undone, power
from splitbooks.ribbons import ribbon_by, weigher_of
from splitbooks.rooms import need_room
from splitbooks.strands import leader_of
from splitbooks.weaves import braid_map_of, many_places, placed


def _leads_of(room, thing):
    """The square by which a thing leads the guests."""
    flats = [flat(square) for square in room.leads]
    return folded(combined(thing, flats, room.book.prime), room.size)


def _taken(room, square, weigher):
    """The crossing and the weigher, once both are found right."""
    need_room(room)
    square = crossing_of(room.book, square)
    return square, weigher_of(room.book, square, weigher)


def _closed(room, square, weigher, strands, braid):
    """The closing, for what is found right; TooMany(64) if there are more places."""
    rows = braid_map_of(room, square, strands, braid)
    led = _leads_of(room, weigher)
    for k in range(1, strands + 1):
        step = placed(led, many_places(room.size, k - 1), many_places(room.size, strands - k))
        rows = led_all(rows, step, room.book.prime)
    return trace_of(room.book.prime, rows)


def closing(room, square, weigher, strands, braid):
    """The sum of the numbers that places have in what the braid, and then the weigher on each strand, lead them to."""
    square, weigher = _taken(room, square, weigher)
    need_braid(strands, braid)
    return _closed(room, square, weigher, strands, braid)


def _twist_of(room, square, weigher):
    """The number by which the ribbon leads each guest, for what is found right; None if there is none."""
    book = room.book
    rows = _leads_of(room, ribbon_by(book, leader_of(book, square), weigher))
    number = rows[0][0]
    wanted = tuple([tuple([number * more for more in row]) for row in plain(room.size)])
    return number if rows == wanted else None


def twist(room, square, weigher):
    """The number t if the ribbon of the weigher leads each guest to t times it, otherwise None."""
    square, weigher = _taken(room, square, weigher)
    return _twist_of(room, square, weigher)


def times_power(prime, number, exponent, more):
    """The product of more and exponent factors number, or so many of what undoes it if exponent is below 0."""
    factor = number if exponent >= 0 else number_undone(number, prime)
    return power(factor, abs(exponent), prime) * more % prime


def kept_number(room, square, weigher, strands, braid):
    """The closing times the power of the twist that no move of the braid changes."""
    square, weigher = _taken(room, square, weigher)
    need_braid(strands, braid)
    number = _twist_of(room, square, weigher)
    if number is None:
        raise NoTwist("the ribbon does not lead each guest to the same multiple of it")
    closed = _closed(room, square, weigher, strands, braid)
    return times_power(room.book.prime, number, excess(strands, braid), closed)
