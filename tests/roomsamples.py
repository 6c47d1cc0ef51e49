"""Rooms to try things on."""

import functools

from splitbooks.alongs import grown_guests, inner_room, left_over
from splitbooks.besides import beside_rooms, rooms_together, turned_back_room, turned_room
from splitbooks.kinds import simple_leads
from splitbooks.rooms import Room, count_room, own_room
from splitbooks.swallowed import swallowed_left
from tests import dense, plainly, samples


def maps_put(prime, *maps):
    """Maps, one after the other."""
    rows = maps[0]
    for more in maps[1:]:
        rows = tuple(plainly.lead(prime, more, row) for row in rows)
    return tuple(tuple(number % prime for number in row) for row in rows)


def in_guests(room, seed=3):
    """The room with other guests in the place of its own, any basis of them."""
    prime = room.book.prime
    rows = samples.some_basis(room.size, prime, seed)
    undone = dense.undone(rows, prime)
    return Room(room.book, [maps_put(prime, rows, square, undone) for square in room.leads])


def rooms_of(book):
    """Rooms of a book, by a name."""
    own, count = own_room(book), count_room(book)
    found = {"own": own, "count": count, "own turned": turned_room(own), "count beside count": beside_rooms(count, count)}
    found["own and count"] = rooms_together(own, count)
    for at, leads in enumerate(simple_leads(book)):
        found[f"simple {at}"] = Room(book, leads)
    guest = samples.some_things(book, 1, 5)[0]
    grown = grown_guests(own, [guest, swallowed_left(book)])
    if 0 < len(grown) < book.size:
        found["inner"] = inner_room(own, grown)
        found["left over"] = left_over(own, grown)
    if book.size > 1:
        found["left over the swallowed"] = left_over(own, [swallowed_left(book)])
        # Of things of count 0 nothing is led to one of another count.
        less = [tuple((a - c * b) % book.prime for a, b in zip(thing, book.one))
                for thing, c in zip(samples.plain(book.size), book.counts)]
        found["counts of 0"] = turned_back_room(inner_room(own, plainly.tidy(less, book.prime)))
    if book.size <= 3:
        found["own beside own"] = beside_rooms(own, own)
    found["own in a basis"] = in_guests(own)
    found["own and count in a basis"] = in_guests(rooms_together(own, turned_room(count)), 4)
    return found


@functools.lru_cache(None)
def some_books():
    """A few books of each family, in their own basis and in others, read the other way and turned about."""
    names = ["one thing", "two over 2", "two over 3, other basis", "three over 3", "three over 7, other way",
             "two and two over 3, other basis", "six over 2", "six over 5, other way, other basis", "shift 2 over 3",
             "shift 2 over 5, other way, other basis", "slip 2, joins turned", "slip 2, other way, other basis",
             "brackets 2, power 0", "brackets 2, power 1, other basis", "brackets 3, power 2, other way",
             "slanted 2, splits turned", "slanted 2, other way, other basis", "three over 2, other basis",
             "shift 2 over 97, other basis", "five over 97"]
    return {name: samples.more_books()[name] for name in names}


@functools.lru_cache(None)
def some_rooms():
    """All rooms_of some_books(), by name."""
    return {f"{name}: {more}": room for name, book in some_books().items() for more, room in rooms_of(book).items()}


def few_rooms(most):
    """Those of some_rooms() that have at most so many guests, and books of at most four things."""
    return {name: room for name, room in some_rooms().items() if room.size <= most and room.book.size <= 4}
