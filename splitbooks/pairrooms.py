"""Rooms of a group whose guests have grades: rooms of doubles of group books, without the double."""

from splitbooks.braids import excess, need_braid
from splitbooks.checks import need_few
from splitbooks.closings import times_power
from splitbooks.doubles import double
from splitbooks.errors import BadGrades, BadLeads, BadPairRoom, BadWay, NoTwist, TooMany
from splitbooks.families import group_book
from splitbooks.grouppairs import need_group_thing, turned_things, ways_of
from splitbooks.groups import need_group, undone_things
from splitbooks.known import Known
from splitbooks.linear import led_all, plain, trace_of, unit
from splitbooks.powers import number_undone
from splitbooks.rooms import Room
from splitbooks.values import cube_of, is_listing, is_number, is_number_within, is_square, need_prime
from splitbooks.weaves import MOST_PLACES, braided

MOST_GRADED = 16
MOST_DOUBLED = 4


def _grades_of(table, grades):
    """The grades as a tuple; BadGrades unless they are 1 to 16 numbers of things of the group."""
    if not is_listing(grades) or not is_number_within(len(grades), 1, MOST_GRADED):
        raise BadGrades("a list of 1 to 16 things of the group is wanted")
    if not all([is_number_within(grade, 0, len(table) - 1) for grade in grades]):
        raise BadGrades("a list of 1 to 16 things of the group is wanted")
    return tuple(grades)


def _leads_fault(prime, table, grades, leads):
    """What BadLeads tells of squares of the right size; None if nothing is wrong with them."""
    things = range(len(table))
    if leads[0] != plain(len(grades)):
        return 0
    for x in things:
        for y in things:
            if led_all(leads[y], leads[x], prime) != leads[table[x][y]]:
                return ("joined", x, y)
    turned = turned_things(table)
    for x in things:
        for i, row in enumerate(leads[x]):
            wanted = turned[x][grades[i]]
            if any([number != 0 and grades[at] != wanted for at, number in enumerate(row)]):
                return ("grade", x, i)
    return None


class PairRoom:
    """Guests with grades, and for each thing of a group the square of what it leads them to."""

    def __init__(self, prime, table, grades, leads):
        need_prime(prime)
        need_group(table)
        grades = _grades_of(table, grades)
        if not is_listing(leads) or len(leads) != len(table):
            raise BadLeads(None)
        if not all([is_square(square, len(grades)) for square in leads]):
            raise BadLeads(None)
        leads = cube_of(leads, prime)
        fault = _leads_fault(prime, table, grades, leads)
        if fault is not None:
            raise BadLeads(fault)
        self.prime = prime
        self.table = tuple([tuple(row) for row in table])
        self.grades = grades
        self.leads = leads
        self.size = len(grades)

    def __eq__(self, other):
        return (isinstance(other, PairRoom) and self.prime == other.prime and self.table == other.table
                and self.grades == other.grades and self.leads == other.leads)


def _is_way(value, found):
    """Whether value is one of the ways found."""
    return isinstance(value, tuple) and all([is_number(number) for number in value]) and value in found


def class_room(prime, table, thing, way):
    """The room of the things that turning about makes of a thing, which are led as a way of its keeper tells."""
    need_prime(prime)
    need_group(table)
    need_group_thing(table, thing)
    if not _is_way(way, ways_of(prime, table, thing)):
        raise BadWay("a way of the keeper of the thing is wanted")
    turned = turned_things(table)
    undone = undone_things(table)
    # The least thing that turns the one thing about to each guest.
    turners = [row[thing] for row in turned]
    guests = sorted(set(turners))
    leads = []
    for x, row in enumerate(table):
        square = []
        for y in guests:
            made = turned[x][y]
            ahead = undone[turners.index(made)]
            number = way[table[ahead][row[turners.index(y)]]]
            square.append([number if guest == made else 0 for guest in guests])
        leads.append(square)
    return PairRoom(prime, table, guests, leads)


def things_room(prime, table):
    """The room of all things of a group, which turn one another about."""
    need_prime(prime)
    need_group(table)
    size = len(table)
    leads = [[unit(size, made) for made in row] for row in turned_things(table)]
    return PairRoom(prime, table, list(range(size)), leads)


def need_pair_room(room):
    """BadPairRoom unless a PairRoom is given."""
    if not isinstance(room, PairRoom):
        raise BadPairRoom("a PairRoom is wanted")


def _map_of(room, strands, braid):
    """The map of a braid that is found right; TooMany(64) if there are more places."""
    need_few(room.size, strands, MOST_PLACES)
    # Guest i beside guest j: j beside what the grade of j leads i to.
    step = []
    for i in range(room.size):
        for j, grade in enumerate(room.grades):
            row = []
            for at in range(room.size):
                row.extend(room.leads[grade][i] if at == j else (0,) * room.size)
            step.append(tuple(row))
    return braided(room.prime, step, room.size, strands, braid)


def pair_map(room, strands, braid):
    """The map that a braid makes of rows of guests, each exchange leading a guest by the grade of the other one."""
    need_pair_room(room)
    need_braid(strands, braid)
    return _map_of(room, strands, braid)


def pair_closing(room, strands, braid):
    """The sum of the numbers that the places have in what the braid leads them to."""
    need_pair_room(room)
    need_braid(strands, braid)
    return trace_of(room.prime, _map_of(room, strands, braid))


def _twist_of(room):
    """The number t such that each guest, led by its grade, is what undoes t times it; None if there is none."""
    number = room.leads[room.grades[0]][0][0]
    for i, grade in enumerate(room.grades):
        if room.leads[grade][i] != tuple([number * more for more in unit(room.size, i)]):
            return None
    return number_undone(number, room.prime)


def pair_twist(room):
    """The number t such that each guest, led by its grade, is what undoes t times it; None if there is none."""
    need_pair_room(room)
    return _twist_of(room)


def pair_kept(room, strands, braid):
    """The closing times the power of the twist that no move of the braid changes."""
    need_pair_room(room)
    need_braid(strands, braid)
    number = _twist_of(room)
    if number is None:
        raise NoTwist("the grades do not lead their guests to the same multiple")
    closed = trace_of(room.prime, _map_of(room, strands, braid))
    return times_power(room.prime, number, excess(strands, braid), closed)


def as_room(room):
    """The room of the double of the group's splitbook: things lead, and rows keep the guests of their grade."""
    need_pair_room(room)
    if len(room.table) > MOST_DOUBLED:
        raise TooMany(MOST_GRADED)
    leads = []
    for i in range(len(room.table)):
        for square in room.leads:
            leads.append(tuple([
                tuple([number if grade == i else 0 for number, grade in zip(row, room.grades)]) for row in square]))
    return Room(double(group_book(room.prime, room.table)), Known(tuple(leads)))
