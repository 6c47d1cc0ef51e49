"""Rooms: guests that the things of a splitbook lead to guests."""

from splitbooks.checks import need_book
from splitbooks.errors import BadRoom, BadRow, BadShape
from splitbooks.known import Known
from splitbooks.leadfaults import joined_fault, unmoved_fault
from splitbooks.linear import combined
from splitbooks.values import cube_of, is_listing, is_number_within, is_row, is_square, row_of

MOST_GUESTS = 36


def leads_taken(book, leads):
    """The leads modulo the prime; BadShape("leads") unless there is a square of one size, 1 to 36, for each thing."""
    if not is_listing(leads) or len(leads) != book.size or not is_listing(leads[0]):
        raise BadShape("leads")
    size = len(leads[0])
    if not is_number_within(size, 1, MOST_GUESTS) or not all([is_square(square, size) for square in leads]):
        raise BadShape("leads")
    return cube_of(leads, book.prime)


def leads_fault(book, leads):
    """The tuple of room_fault, or None, for leads that are taken."""
    place = unmoved_fault(book.prime, book.one, leads)
    if place is not None:
        return ("one", place)
    places = joined_fault(book.prime, book.joins, leads)
    return None if places is None else ("leads",) + places


def room_fault(book, leads):
    """None if these leads are a room, otherwise a tuple that tells the first wrong place."""
    need_book(book)
    return leads_fault(book, leads_taken(book, leads))


def right_leads(book, leads):
    """The leads modulo the prime; the errors of room_fault, or BadRoom with what it tells."""
    if isinstance(leads, Known):
        return leads.table
    leads = leads_taken(book, leads)
    fault = leads_fault(book, leads)
    if fault is not None:
        raise BadRoom(fault)
    return leads


class Room:
    """Guests, and for each thing of a splitbook the square of what it leads them to."""

    def __init__(self, book, leads):
        need_book(book)
        leads = right_leads(book, leads)
        self.book = book
        self.size = len(leads[0])
        self.leads = leads

    def __eq__(self, other):
        return isinstance(other, Room) and self.book == other.book and self.leads == other.leads


def need_room(room):
    """BadRoom(None) unless a Room is given."""
    if not isinstance(room, Room):
        raise BadRoom(None)


def need_two_rooms(one, other):
    """BadRoom(None) unless two Rooms are given, BadShape("book") unless their books are equal."""
    need_room(one)
    need_room(other)
    if one.book != other.book:
        raise BadShape("book")


def led_guest(room, thing, guest):
    """The guest to which a thing leads a guest."""
    need_room(room)
    prime = room.book.prime
    if not is_row(thing, room.book.size):
        raise BadRow("a thing of the room's book is wanted")
    if not is_row(guest, room.size):
        raise BadRow("a guest of the room is wanted")
    guest = row_of(guest, prime)
    led = [combined(guest, square, prime) for square in room.leads]
    return combined(row_of(thing, prime), led, prime)


def own_room(book):
    """The room of the things of a splitbook: x leads y to x joined to y."""
    need_book(book)
    return Room(book, Known(book.joins))


def count_room(book):
    """The room of one guest, multiplied by the counts."""
    need_book(book)
    return Room(book, Known(tuple([((count,),) for count in book.counts])))
