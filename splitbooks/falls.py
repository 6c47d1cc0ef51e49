"""Falls: guests that fall into guests paired with things, which are leads of the other way."""

from splitbooks.axes import cube_flat, moved, summed
from splitbooks.bases import other_way
from splitbooks.checks import need_book
from splitbooks.errors import BadRoom, BadShape
from splitbooks.known import Known
from splitbooks.leadfaults import joined_fault, unmoved_fault
from splitbooks.linear import across, flat
from splitbooks.rooms import MOST_GUESTS, Room, need_room
from splitbooks.tables import turned_cube
from splitbooks.values import cube_of, is_listing, is_map, is_number_within


def falls_taken(book, falls):
    """The falls modulo the prime; BadShape("falls") unless they are falls of a size from 1 to 36."""
    if not is_listing(falls) or not is_number_within(len(falls), 1, MOST_GUESTS):
        raise BadShape("falls")
    if not all([is_map(table, len(falls), book.size) for table in falls]):
        raise BadShape("falls")
    return cube_of(falls, book.prime)


def leads_told(falls):
    """For each thing, the square that leads each guest to the guests that it falls into, paired with this thing."""
    return tuple([tuple([tuple([row[k] for row in table]) for table in falls]) for k in range(len(falls[0][0]))])


def falls_told(leads):
    """The falls of which leads_told makes these leads."""
    return tuple([across([square[i] for square in leads]) for i in range(len(leads[0]))])


def _least_unlike_fall(book, falls):
    """The least guest whose fall falls once more unlike its things split; there is one."""
    prime = book.prime
    size = len(falls)
    guests = cube_flat(falls)
    splits = cube_flat(book.splits)
    for i, table in enumerate(falls):
        # At the thing of the earlier fall, the guest, and the thing of the later one.
        later = summed(flat(across(table)), guests, size, prime)
        if moved(later, [book.size, size, book.size], [1, 2, 0]) != summed(flat(table), splits, book.size, prime):
            return i
    return None


def fault_of_falls(book, falls):
    """The tuple of falls_fault, or None, for falls that are taken."""
    leads = leads_told(falls)
    place = unmoved_fault(book.prime, book.counts, leads)
    if place is not None:
        return ("counts", place)
    # Falls are right just if they are, by the rows that tell of things, leads of the other way.
    if joined_fault(book.prime, turned_cube(book.splits), leads) is None:
        return None
    return ("falls", _least_unlike_fall(book, falls))


def falls_fault(book, falls):
    """None if these are falls over the book, otherwise a tuple that tells the first wrong place."""
    need_book(book)
    return fault_of_falls(book, falls_taken(book, falls))


def falls_of(room):
    """The falls of the guests of a room over the other way of its book."""
    need_room(room)
    return falls_told(room.leads)


def right_falls(book, falls):
    """The falls that are handed in; the errors of falls_fault, or BadRoom with what it tells."""
    need_book(book)
    falls = falls_taken(book, falls)
    fault = fault_of_falls(book, falls)
    if fault is not None:
        raise BadRoom(fault)
    return falls


def leads_of(book, falls):
    """The room of the other way of a book that its falls make."""
    leads = leads_told(right_falls(book, falls))
    return Room(other_way(book), Known(leads))
