"""Rooms with crossings of their books, and weighers."""

import functools

from splitbooks.bases import in_basis, other_way
from splitbooks.crossings import crossings
from splitbooks.doubles import double, double_crossing
from splitbooks.families import group_book, shift_book, slip_book
from splitbooks.kinds import simple_leads
from splitbooks.ribbons import weighers
from splitbooks.besides import rooms_together
from splitbooks.rooms import Room, count_room, own_room
from splitbooks.twists import led_twist, twisted, twisted_crossing
from tests import plainly, samples
from tests.roomsamples import in_guests
from tests.twistsamples import plain_twist, signs_within, square_in_basis, things_to_lead


@functools.lru_cache(None)
def crossed_books():
    """(book, crossing) by name."""
    found = {}
    for name in ("one thing", "two over 2", "two over 3", "two over 3, other basis", "three over 3", "three over 7, other way",
                 "brackets 2, power 0", "brackets 3, power 2", "shift 2 over 3", "slip 2"):
        book = samples.books()[name]
        for at, square in enumerate(crossings(book)[:3]):
            found[f"{name}: {at}"] = (book, square)
    doubled = {"two over 3": group_book(3, samples.cyclic(2)), "two over 2": group_book(2, samples.cyclic(2)),
               "three over 7": group_book(7, samples.cyclic(3)), "three over 97, other way": other_way(group_book(97, samples.cyclic(3))),
               "shift 2 over 5": shift_book(5, 2, 4), "four over 3": group_book(3, samples.FOUR),
               "four turns over 5": group_book(5, samples.cyclic(4)), "slip 2": slip_book(2),
               "brackets 2": samples.books()["brackets 2, power 1"]}
    for name, book in doubled.items():
        found[f"double of {name}"] = (double(book), double_crossing(book))
    whole, square = found["double of two over 3"]
    rows = samples.some_basis(4, 3, 21)
    found["double of two over 3, other basis"] = (in_basis(whole, rows), square_in_basis(square, rows, 3))
    # The two things that go past all others of a group of eight make a crossing of signs.
    for name, table in (("eight", samples.EIGHT), ("quaternions", samples.QUATERNIONS)):
        past = next(x for x in range(1, 8) if all(table[x][y] == table[y][x] for y in range(8)))
        square = [[0] * 8 for _ in range(8)]
        for g, h, number in ((0, 0, 1), (0, past, 1), (past, 0, 1), (past, past, -1)):
            square[g][h] = number * pow(2, -1, 5) % 5
        found[name + ", signs"] = (group_book(5, table), tuple(map(tuple, square)))
    # Twisted books.
    book, twist = signs_within(group_book(5, samples.beside_groups(samples.SIX, samples.cyclic(2))),
                               samples.beside_groups(samples.SIX, samples.cyclic(2)))
    found["turns of six, twisted"] = (twisted(book, twist), twisted_crossing(book, twist, plain_twist(book)))
    book = shift_book(3, 2, 2)
    for thing in things_to_lead(book, 1):
        twist = led_twist(book, plain_twist(book), thing)
        found["shift, twisted"] = (twisted(book, twist), twisted_crossing(book, twist, crossings(book)[1]))
    return found


def rooms_for(book):
    """Some rooms of a book of at most eight guests, by name."""
    found = {"count": count_room(book)}
    simple = [Room(book, leads) for leads in simple_leads(book)]
    for at, room in enumerate(simple[:5 if book.size <= 9 else 2]):
        found[f"simple {at}"] = room
    if len(simple) > 1 and simple[0].size + simple[-1].size <= 8:
        found["together"] = rooms_together(simple[0], simple[-1])
        found["together in a basis"] = in_guests(rooms_together(simple[-1], simple[-2]), 5)
    if book.size <= 4:
        found["own"] = own_room(book)
    return found


@functools.lru_cache(None)
def woven():
    """(room, crossing) by name."""
    found = {}
    for name, (book, square) in crossed_books().items():
        for more, room in rooms_for(book).items():
            if room.size <= 8:
                found[f"{name}, {more}"] = (room, square)
    # Rooms that have one number for all guests: some simple ones, put together.
    for name in ("double of two over 3", "double of three over 7", "double of four over 3"):
        book, square = crossed_books()[name]
        simple = [Room(book, leads) for leads in simple_leads(book)]
        found[name + ", three together"] = (rooms_together(rooms_together(simple[0], simple[1]), simple[2]), square)
        found[name + ", first and last"] = (rooms_together(simple[0], simple[-1]), square)
    return found


@functools.lru_cache(None)
def weighed():
    """(room, crossing, weigher) by name: each weigher of woven(), at most two for each."""
    found = {}
    for name, (room, square) in woven().items():
        for at, thing in enumerate(weighers(room.book, square)[:2]):
            found[f"{name}, {at}"] = (room, square, thing)
    return found


def led_by(room, thing, guest):
    """What a thing leads a guest to."""
    prime = room.book.prime
    total = [0] * room.size
    for x, number in enumerate(thing):
        if number:
            total = [a + number * b for a, b in zip(total, plainly.lead(prime, room.leads[x], guest))]
    return tuple(number % prime for number in total)
