"""Point 117: rooms of a group with grades."""

import functools
import itertools
import unittest

from splitbooks.braids import excess, is_braid, things_led
from splitbooks.closings import closing, kept_number, twist
from splitbooks.doubles import double, double_crossing
from splitbooks.errors import (
    BadBraid, BadGrades, BadGroup, BadLeads, BadPairRoom, BadPrime, BadStrands, BadThing, BadWay, NoTwist, TooMany)
from splitbooks.families import group_book
from splitbooks.grouppairs import ways
from splitbooks.pairrooms import (
    PairRoom, as_room, class_room, pair_closing, pair_kept, pair_map, pair_twist, things_room)
from splitbooks.rooms import Room, own_room, room_fault
from splitbooks.weaves import braid_map
from tests import plainly, samples
from tests.braidsamples import NO_STRANDS, alike_pairs, some_braid
from tests.helping import Case
from tests.test_grouppairs import turned, undone


def together(one, other):
    """The guests of both, each led as there."""
    m, n = one.size, other.size
    leads = [[list(row) + [0] * n for row in a] + [[0] * m + list(row) for row in b]
             for a, b in zip(one.leads, other.leads)]
    return PairRoom(one.prime, one.table, one.grades + other.grades, leads)


def other_guests(room):
    """The room of two guests of each grade in the place of each one, mixed with one another."""
    twice = together(room, room)
    m, prime = room.size, room.prime
    # Guest i becomes i and its twin, the twin becomes i and two times the twin: undone by 2, -1 and -1, 1.
    basis = [[1 if j in (i % m, i % m + m) and i < m else (1 if j == i - m else 2) if i >= m and j % m == i % m else 0
              for j in range(2 * m)] for i in range(2 * m)]
    back = [row[2 * m:] for row in plainly.tidy([list(row) + list(unit) for row, unit in zip(basis, samples.plain(2 * m))],
                                                prime)]
    leads = []
    for square in twice.leads:
        rows = [plainly.lead(prime, square, row) for row in basis]
        leads.append([plainly.lead(prime, back, row) for row in rows])
    return PairRoom(prime, twice.table, twice.grades, leads)


@functools.lru_cache(None)
def pair_samples():
    """PairRooms by name."""
    found = {}
    groups = {"one": [[0]], "two": samples.cyclic(2), "three": samples.cyclic(3), "four": samples.FOUR,
              "four turns": samples.cyclic(4), "six": samples.SIX, "eight": samples.EIGHT,
              "quaternions": samples.QUATERNIONS, "twelve": samples.TWELVE}
    for name, table in groups.items():
        n = len(table)
        for prime in (2, 3, 5, 7, 97):
            if prime in (7, 97) and n > 6:
                continue
            if n <= 8:
                found[f"{name} over {prime}, things"] = things_room(prime, table)
            least = sorted({min(turned(table, z, x) for z in range(n)) for x in range(n)})
            for thing in least[-3:]:
                for at, way in enumerate(ways(prime, table, thing)[:3]):
                    found[f"{name} over {prime}, {thing}, {at}"] = class_room(prime, table, thing, way)
    for prime in (3, 5):
        rooms = [class_room(prime, samples.cyclic(2), x, w) for x in (0, 1) for w in ways(prime, samples.cyclic(2), x)]
        found[f"two over {prime}, together"] = together(rooms[0], rooms[3])
        found[f"two over {prime}, all together"] = functools.reduce(together, rooms)
        found[f"two over {prime}, other guests"] = other_guests(together(rooms[1], rooms[2]))
        found[f"two over {prime}, of one number"] = together(rooms[0], together(rooms[1], rooms[2]))
        found[f"six over {prime}, other guests"] = other_guests(class_room(prime, samples.SIX, 1, ways(prime, samples.SIX, 1)[1]))
    return found


def few(most, strands=1):
    return {name: room for name, room in pair_samples().items() if room.size ** strands <= most}


def fault_plainly(prime, table, grades, leads):
    n, m = len(table), len(grades)
    leads = [[[number % prime for number in row] for row in square] for square in leads]
    if leads[0] != [list(row) for row in samples.plain(m)]:
        return 0
    for x, y in itertools.product(range(n), repeat=2):
        if [list(plainly.lead(prime, leads[x], row)) for row in leads[y]] != leads[table[x][y]]:
            return ("joined", x, y)
    for x, i in itertools.product(range(n), range(m)):
        if any(leads[x][i][j] and grades[j] != turned(table, x, grades[i]) for j in range(m)):
            return ("grade", x, i)
    return None


def map_plainly(room, strands, braid):
    """Places led by the steps, as dicts of numbers at rows of guests."""
    prime, m = room.prime, room.size
    places = list(itertools.product(range(m), repeat=strands))
    back = [undone(room.table, x) for x in range(len(room.table))]
    rows = []
    for place in places:
        here = {place: 1}
        for number in braid:
            k = abs(number)
            new = {}
            for row, many in here.items():
                i, j = row[k - 1:k + 1]
                if number > 0:
                    ends = [((j, t), more) for t, more in enumerate(room.leads[room.grades[j]][i])]
                else:
                    # j led by what undoes the grade of i, beside i.
                    ends = [((t, i), more) for t, more in enumerate(room.leads[back[room.grades[i]]][j])]
                for end, more in ends:
                    if more:
                        to = row[:k - 1] + end + row[k + 1:]
                        new[to] = (new.get(to, 0) + many * more) % prime
            here = new
        rows.append(tuple(here.get(to, 0) for to in places))
    return tuple(rows)


class PairRoomsTest(Case):

    def test_rooms(self):
        for name, room in pair_samples().items():
            with self.subTest(name=name):
                self.assertIs(type(room), PairRoom)
                self.assertTrue({"prime", "table", "grades", "leads", "size"} <= set(vars(room)))
                self.numbers_within(room.prime, room.leads, 3)
                self.numbers_within(len(room.table), room.table, 2)
                self.numbers_within(len(room.table), room.grades, 1)
                self.assertEqual(room.size, len(room.grades))
                self.assertIsNone(fault_plainly(room.prime, room.table, room.grades, room.leads))
                leads = [[[number - room.prime * (at + 1) for at, number in enumerate(row)] for row in square]
                         for square in room.leads]
                again = self.unchanged(PairRoom, room.prime, [list(row) for row in room.table], list(room.grades), leads)
                self.assertEqual(again, room)
                self.assertEqual((again.leads, again.table, again.grades), (room.leads, room.table, room.grades))

    def test_equal(self):
        room = pair_samples()["two over 3, together"]
        self.assertEqual(PairRoom(3, room.table, room.grades, room.leads), room)
        for value in (None, 1, room.leads, (room.prime, room.table, room.grades, room.leads), "room",
                      own_room(group_book(3, samples.cyclic(2)))):
            self.assertFalse(room == value)
            self.assertTrue(room != value)
        names = ["two over 3, things", "two over 5, things", "two over 3, 0, 0", "two over 3, 1, 0", "two over 3, 1, 1"]
        for one, other in itertools.combinations(names, 2):
            self.assertNotEqual(pair_samples()[one], pair_samples()[other])
        one, four = things_room(3, samples.FOUR), things_room(3, samples.cyclic(4))
        self.assertEqual((one.leads, one.grades), (four.leads, four.grades))
        self.assertNotEqual(one, four)

    def test_one_number_changed(self):
        """At each place: the first wrong place is told."""
        told = set()
        for name in ("two over 3, together", "six over 5, 1, 1", "three over 7, 2, 1", "two over 5, other guests",
                     "six over 2, things", "four over 3, 3, 2"):
            room = pair_samples()[name]
            n, m = len(room.table), room.size
            for x, i, j in itertools.product(range(n), range(m), range(m)):
                leads = [[list(row) for row in square] for square in room.leads]
                leads[x][i][j] += 1
                part = fault_plainly(room.prime, room.table, room.grades, leads)
                told.add(part[0] if part else part)
                if part is None:
                    self.assertNotEqual(PairRoom(room.prime, room.table, room.grades, leads), room)
                else:
                    self.refused(BadLeads, part, PairRoom, room.prime, room.table, room.grades, leads)
        self.assertEqual(told, {None, 0, "joined", "grade"})

    def test_wrong_grades_told(self):
        seen = set()
        for name, room in few(6).items():
            for i in range(room.size):
                for grade in range(len(room.table)):
                    grades = list(room.grades)
                    grades[i] = grade
                    part = fault_plainly(room.prime, room.table, grades, room.leads)
                    if part is None:
                        self.assertEqual(PairRoom(room.prime, room.table, grades, room.leads).grades, tuple(grades))
                    else:
                        seen.add(part[0])
                        self.refused(BadLeads, part, PairRoom, room.prime, room.table, grades, room.leads)
        self.assertEqual(seen, {"grade"})

    def test_refused(self):
        plain = [[[1]], [[1]]]
        table = samples.cyclic(2)
        for value in samples.STRANGE + [0, 1, 4, 101, 3.0, "3"]:
            self.refused(BadPrime, None, PairRoom, value, None, None, None)
            self.refused(BadPrime, None, things_room, value, None)
            self.refused(BadPrime, None, class_room, value, None, None, None)
        for value in samples.STRANGE + samples.WRONG_GROUPS:
            self.refused(BadGroup, None, PairRoom, 3, value, None, None)
            self.refused(BadGroup, None, things_room, 3, value)
            self.refused(BadGroup, None, class_room, 3, value, None, None)
        for value in samples.STRANGE + [[], (), [2], [-1], [0] * 17, [True], [0.0], ["0"], "0", {0: 0}, 0, [[0]], range(1)]:
            self.refused(BadGrades, None, PairRoom, 3, table, value, None)
            self.refused(BadGrades, None, PairRoom, 3, table, value, plain)
        for value in samples.STRANGE + [[], [[[1]]], [[[1]]] * 3, [[1], [1]], [[[1, 0]], [[1]]], [[[True]], [[1]]],
                                        [[[1]], [[1.0]]], [[[1]], None], [[[1, 0], [0, 1]]] * 2, {0: [[1]], 1: [[1]]}]:
            self.refused(BadLeads, None, PairRoom, 3, table, [0], value)
        self.refused(BadLeads, 0, PairRoom, 3, table, [0], [[[2]], [[1]]])
        self.refused(BadLeads, 0, PairRoom, 3, table, [0], [[[0]], [[0]]])
        self.refused(BadLeads, ("joined", 1, 1), PairRoom, 5, table, [0], [[[1]], [[2]]])
        self.refused(BadLeads, ("grade", 1, 0), PairRoom, 3, table, [0, 1], [[[1, 0], [0, 1]], [[0, 1], [1, 0]]])
        self.assertEqual(PairRoom(3, table, [0] * 16, [samples.plain(16)] * 2).size, 16)

    def test_class_room(self):
        for table in (samples.cyclic(2), samples.SIX, samples.EIGHT, samples.TWELVE, samples.cyclic(16),
                      samples.beside_groups(samples.SIX, samples.cyclic(2))):
            n = len(table)
            for prime in (2, 3, 5, 97):
                for thing in range(n):
                    for way in ways(prime, table, thing)[:2] + ways(prime, table, thing)[-1:]:
                        found = self.unchanged(class_room, prime, table, thing, way)
                        guests = sorted({turned(table, z, thing) for z in range(n)})
                        self.assertEqual(found.grades, tuple(guests))
                        least = {y: next(z for z in range(n) if turned(table, z, thing) == y) for y in guests}
                        for x in range(n):
                            for i, y in enumerate(guests):
                                made = turned(table, x, y)
                                number = way[table[table[undone(table, least[made])][x]][least[y]]]
                                wanted = tuple(number if guest == made else 0 for guest in guests)
                                self.assertEqual(found.leads[x][i], wanted)

    def test_class_room_refused(self):
        table = samples.SIX
        for value in samples.STRANGE + [6, -1, 6.0, "0", [0]]:
            self.refused(BadThing, None, class_room, 5, table, value, None)
        way = ways(5, table, 1)[1]
        for value in samples.STRANGE + [list(way), way[:5], way + (0,), tuple(number - 5 for number in way), (1,) * 6,
                                        tuple(float(number) for number in way), (0,) * 6, (True,) + way[1:],
                                        ways(5, table, 3)[0], [way]]:
            self.refused(BadWay, None, class_room, 5, table, 1, value)
        self.assertEqual(class_room(5, table, 1, way).size, 3)

    def test_things_room(self):
        for prime, table in ((2, [[0]]), (3, samples.SIX), (5, samples.TWELVE), (97, samples.cyclic(16))):
            n = len(table)
            found = self.unchanged(things_room, prime, table)
            self.assertEqual(found.grades, tuple(range(n)))
            for x, y in itertools.product(range(n), repeat=2):
                self.assertEqual(found.leads[x][y], samples.unit(n, turned(table, x, y)))

    def test_pair_map(self):
        for name, room in pair_samples().items():
            for strands in (1, 2, 3, 6, 8):
                if room.size ** strands > 64:
                    for function in (pair_map, pair_closing):
                        self.refused(TooMany, 64, function, room, strands, some_braid(strands, 40, 1))
                    continue
                for seed, many in enumerate((0, 1, 5)):
                    braid = some_braid(strands, many, seed)
                    if room.size ** strands > 30 and many == 5:
                        continue
                    with self.subTest(name=name, braid=braid):
                        found = self.unchanged(pair_map, room, strands, braid)
                        self.numbers_within(room.prime, found, 2)
                        wanted = map_plainly(room, strands, braid)
                        self.assertEqual(found, wanted)
                        closed = self.unchanged(pair_closing, room, strands, tuple(braid))
                        self.assertIs(type(closed), int)
                        self.assertEqual(closed, sum(row[at] for at, row in enumerate(wanted)) % room.prime)

    def test_twist(self):
        told = set()
        for name, room in pair_samples().items():
            rows = [room.leads[grade][i] for i, grade in enumerate(room.grades)]
            number = rows[0][0]
            fits = all(row == tuple(number * n for n in unit) for row, unit in zip(rows, samples.plain(room.size)))
            wanted = pow(number, -1, room.prime) if fits else None
            with self.subTest(name=name):
                found = self.unchanged(pair_twist, room)
                self.assertEqual(found, wanted)
                self.assertIs(type(found), type(wanted))
                told.add((wanted is None, room.size > 1, wanted == 1))
                for strands in (1, 2):
                    braid = some_braid(strands, 3, 1)
                    if wanted is None:
                        self.refused(NoTwist, None, pair_kept, room, strands, braid)
                    elif room.size ** strands > 64:
                        self.refused(TooMany, 64, pair_kept, room, strands, braid)
                    else:
                        kept = self.unchanged(pair_kept, room, strands, braid)
                        self.assertIs(type(kept), int)
                        self.assertEqual(kept, pow(wanted, excess(strands, braid), room.prime)
                                         * pair_closing(room, strands, braid) % room.prime)
        self.assertTrue({(True, True, False), (False, True, True), (False, False, False), (False, True, False)} <= told)

    def test_as_room(self):
        seen = 0
        for name, room in pair_samples().items():
            if len(room.table) > 4:
                self.refused(TooMany, 16, as_room, room)
                continue
            book = group_book(room.prime, room.table)
            n = book.size
            with self.subTest(name=name):
                found = self.unchanged(as_room, room)
                self.assertIs(type(found), Room)
                self.assertEqual(found.book, double(book))
                for i, k in itertools.product(range(n), repeat=2):
                    wanted = tuple(tuple(number if room.grades[j] == i else 0 for j, number in enumerate(row))
                                   for row in room.leads[k])
                    self.assertEqual(found.leads[i * n + k], wanted)
                self.assertIsNone(room_fault(found.book, found.leads))
                square, weigher = double_crossing(book), found.book.one
                number = twist(found, square, weigher)
                self.assertEqual(number, pair_twist(room))
                for strands in (1, 2, 3):
                    if room.size ** strands > 27:
                        continue
                    seen += 1
                    braid = some_braid(strands, 3, strands)
                    self.assertEqual(pair_map(room, strands, braid), braid_map(found, square, strands, braid))
                    self.assertEqual(pair_closing(room, strands, braid), closing(found, square, weigher, strands, braid))
                    if number is not None:
                        self.assertEqual(pair_kept(room, strands, braid),
                                         kept_number(found, square, weigher, strands, braid))
        self.assertGreater(seen, 60)

    def test_moves(self):
        """Maps of alike braids; numbers kept along all moves."""
        for name, room in few(27, 3).items():
            number = pair_twist(room)
            most = 5 if room.size <= 2 else 3
            for strands, braid, other in alike_pairs(8):
                if strands > most or not is_braid(strands, other) or room.size ** strands > 32:
                    continue
                with self.subTest(name=name, braid=braid):
                    self.assertEqual(pair_map(room, strands, braid), pair_map(room, strands, other))
                    closed = pair_closing(room, strands, braid)
                    self.assertEqual(pair_closing(room, strands, braid[1:] + braid[:1]), closed)
                    if number is not None and strands < most:
                        kept = pair_kept(room, strands, braid)
                        self.assertEqual(pair_kept(room, strands, other), kept)
                        for step in (strands, -strands):
                            self.assertEqual(pair_kept(room, strands + 1, braid + [step]), kept)

    def test_things_are_counted(self):
        """pair_closing of things_room is the number of rows of things that the braid leads to themselves."""
        for prime, table in ((2, samples.SIX), (3, samples.SIX), (97, samples.SIX), (5, samples.QUATERNIONS),
                             (97, samples.EIGHT), (7, samples.cyclic(4)), (5, [[0]])):
            n = len(table)
            for strands in range(1, 9):
                if n ** strands > 64:
                    break
                for seed in range(3):
                    braid = some_braid(strands, 4 + seed, seed)
                    many = sum(things_led(table, row, braid) == row for row in itertools.product(range(n), repeat=strands))
                    self.assertEqual(pair_closing(things_room(prime, table), strands, braid), many % prime)

    def test_wrong_rooms(self):
        room = pair_samples()["two over 3, together"]
        for value in samples.STRANGE + [own_room(group_book(3, samples.cyclic(2))), room.leads, [room], 1]:
            for function, others in ((pair_map, (2, [1])), (pair_closing, (2, [1])), (pair_kept, (2, [1])), (pair_twist, ()),
                                     (as_room, ())):
                self.refused(BadPairRoom, None, function, value, *others)
                self.refused(BadPairRoom, None, function, value, *[None] * len(others))
        untwisted = pair_samples()["two over 3, all together"]
        self.assertIsNone(pair_twist(untwisted))
        for function in (pair_map, pair_closing, pair_kept):
            for value in samples.STRANGE + NO_STRANDS + [True, 2.0]:
                self.refused(BadStrands, None, function, untwisted, value, None)
            for value in (None, [0], [2], [True], [1] * 41, "1", {1: 1}, 1):
                self.refused(BadBraid, None, function, untwisted, 2, value)
        self.refused(NoTwist, None, pair_kept, untwisted, 8, [7])
        self.refused(TooMany, 64, pair_map, untwisted, 8, [7])

    def test_limits(self):
        eight = things_room(3, samples.EIGHT)
        self.assertEqual(len(pair_map(eight, 2, [1, -1, 1])), 64)
        self.refused(TooMany, 64, pair_map, eight, 3, [])
        nine = things_room(3, samples.cyclic(9))
        self.refused(TooMany, 64, pair_map, nine, 2, [])
        self.refused(TooMany, 64, pair_kept, nine, 2, [])
        self.assertEqual(pair_closing(nine, 1, []), 0)
        one = class_room(5, samples.cyclic(4), 1, (1, 2, 4, 3))
        self.assertEqual(pair_map(one, 8, [7] * 40), ((pow(2, 40, 5),),))
        self.assertEqual(as_room(one).size, 1)
        self.refused(TooMany, 16, as_room, things_room(2, samples.cyclic(5)))

    def test_by_hand(self):
        room = class_room(3, samples.cyclic(2), 1, (1, 2))
        self.assertEqual((room.size, room.grades, room.leads), (1, (1,), (((1,),), ((2,),))))
        self.assertEqual(pair_twist(room), 2)
        self.assertEqual(pair_map(room, 2, [1]), ((2,),))
        self.assertEqual(pair_closing(room, 2, [1]), 2)
        self.assertEqual(pair_kept(room, 2, [1]), 1)
        self.assertEqual(pair_kept(room, 1, []), 1)


if __name__ == "__main__":
    unittest.main()
