"""Points 88 and 89: crossed pairs of groups, and their splitbooks."""

import itertools
import unittest

from splitbooks.bases import joins_turned, other_way, splits_turned
from splitbooks.books import Splitbook
from splitbooks.crossed import (
    crossed_book, crossed_from, crossed_group, crossed_pairs, crossed_swapped, pair_fault)
from splitbooks.errors import BadCrossed, BadGroup, BadPrime, BadShape, TooMany
from splitbooks.families import group_book
from splitbooks.groups import is_group
from splitbooks.inner import inner_book
from splitbooks.leadings import is_leading, are_alike
from splitbooks.leftovers import left_by, stays
from tests import plainly, samples
from tests.helping import Case

GROUPS = {"one": [[0]], "two": samples.cyclic(2), "three": samples.cyclic(3), "four": samples.cyclic(4),
          "twos": samples.FOUR, "six": samples.SIX}


def trivial(one, other):
    """The pair in which nothing is moved and nothing turned."""
    return ([list(range(len(one))) for _ in other], [[s] * len(one) for s in range(len(other))])


def wrong_plainly(one, other, moves, turns):
    """What pair_fault has to tell of tables of the right shapes."""
    xs, ss = range(len(one)), range(len(other))
    for s in ss:
        for x in xs:
            if (s == 0 and moves[0][x] != x) or (x == 0 and turns[s][0] != s):
                return ("units", s, x)
    for s, t, x in itertools.product(ss, ss, xs):
        if moves[other[s][t]][x] != moves[s][moves[t][x]]:
            return ("moves", s, t, x)
    for s, x, y in itertools.product(ss, xs, xs):
        if turns[s][one[x][y]] != turns[turns[s][x]][y]:
            return ("turns", s, x, y)
    for s, x, y in itertools.product(ss, xs, xs):
        if moves[s][one[x][y]] != one[moves[s][x]][moves[turns[s][x]][y]]:
            return ("products", s, x, y)
    for s, t, x in itertools.product(ss, ss, xs):
        if turns[other[s][t]][x] != other[turns[s][moves[t][x]]][turns[t][x]]:
            return ("steps", s, t, x)
    return None


def all_pairs(one, other):
    """All pairs of tables of which none is wrong; of small groups."""
    f, g = len(one), len(other)
    found = []
    for moves in itertools.product(itertools.product(range(f), repeat=f), repeat=g):
        if moves[0] == tuple(range(f)):
            for turns in itertools.product(itertools.product(range(g), repeat=f), repeat=g):
                if wrong_plainly(one, other, moves, turns) is None:
                    found.append((moves, turns))
    return found


def inner_groups(table):
    """Things of a few inner groups of a group, each beginning with 0."""
    found = [[0]]
    for x in range(len(table)):
        for y in range(len(table)):
            things = {0, x, y}
            while True:
                more = things | {table[a][b] for a in things for b in things}
                if more == things:
                    break
                things = more
            if [0] + sorted(things - {0}) not in found:
                found.append([0] + sorted(things - {0}))
    return found


def some_pairs():
    """(one, other, moves, turns) of all kinds: all of small groups, and such that come from greater ones."""
    found = []
    for one in ("one", "two", "three", "four", "twos"):
        for other in ("one", "two", "three", "four", "twos"):
            pairs = crossed_pairs(GROUPS[one], GROUPS[other])
            for moves, turns in pairs[:2] + pairs[len(pairs) // 2:][:2] + pairs[-2:]:
                found.append((GROUPS[one], GROUPS[other], moves, turns))
    for table in (samples.SIX, samples.TWELVE, samples.EIGHT, samples.beside_groups(samples.SIX, samples.cyclic(2))):
        for first in inner_groups(table):
            for second in inner_groups(table):
                if len(first) * len(second) == len(table) and len({table[x][s] for x in first for s in second}) == len(table):
                    found.append(crossed_from(table, first, second))
    return found


class PairsTest(Case):

    def test_faults(self):
        """Pairs with one number changed at each place."""
        told = {}
        for one, other, moves, turns in some_pairs()[::3]:
            self.assertIsNone(wrong_plainly(one, other, moves, turns))
            self.assertIsNone(self.unchanged(pair_fault, one, other, moves, turns))
            f, g = len(one), len(other)
            for s in range(g):
                for x in range(f):
                    for which, most in ((0, f), (1, g)):
                        tables = [[list(row) for row in moves], [list(row) for row in turns]]
                        tables[which][s][x] = (tables[which][s][x] + 1) % most
                        wanted = wrong_plainly(one, other, *tables)
                        self.assertEqual(pair_fault(one, other, *tables), wanted)
                        told[wanted and wanted[0]] = told.get(wanted and wanted[0], 0) + 1
                        if wanted is not None:
                            self.refused(BadCrossed, wanted, crossed_group, one, other, *tables)
                            self.refused(BadCrossed, wanted, crossed_swapped, one, other, *tables)
                            self.refused(BadCrossed, wanted, crossed_book, 3, one, other, *tables)
        self.assertGreater(told["units"], 10)
        self.assertGreater(told["moves"], 10)
        self.assertGreater(told["turns"], 10)

    def test_late_faults(self):
        """Moves and turns that are right by themselves, but not together."""
        told = {}
        for one, other in itertools.product(("two", "three", "four", "twos"), repeat=2):
            one, other = GROUPS[one], GROUPS[other]
            pairs = crossed_pairs(one, other)
            for moves, _ in pairs[:12]:
                for _, turns in pairs[:12]:
                    wanted = wrong_plainly(one, other, moves, turns)
                    told[wanted and wanted[0]] = told.get(wanted and wanted[0], 0) + 1
                    self.assertEqual(pair_fault(one, other, moves, turns), wanted)
        for moves in itertools.product(itertools.permutations(range(3)), repeat=2):
            wanted = wrong_plainly(GROUPS["three"], GROUPS["two"], moves, trivial(GROUPS["three"], GROUPS["two"])[1])
            told[wanted and wanted[0]] = told.get(wanted and wanted[0], 0) + 1
            self.assertEqual(pair_fault(GROUPS["three"], GROUPS["two"], moves, [[0] * 3, [1] * 3]), wanted)
        for turns in itertools.product(itertools.product(range(3), repeat=2), repeat=3):
            moves = trivial(GROUPS["two"], GROUPS["three"])[0]
            wanted = wrong_plainly(GROUPS["two"], GROUPS["three"], moves, turns)
            told[wanted and wanted[0]] = told.get(wanted and wanted[0], 0) + 1
            self.assertEqual(pair_fault(GROUPS["two"], GROUPS["three"], moves, turns), wanted)
        self.assertEqual(sorted(told, key=str), [None, "moves", "products", "steps", "turns", "units"])

    def test_shapes(self):
        one, other = GROUPS["three"], GROUPS["two"]
        moves, turns = trivial(one, other)
        functions = [pair_fault, crossed_group, crossed_swapped,
                     lambda *args: crossed_book(5, *args)]
        for function in functions:
            for value in samples.STRANGE + [[[1]], [[0, 1], [1, 1]], [[0, True], [True, 0]], samples.cyclic(17)]:
                self.refused(BadGroup, None, function, value, None, None, None)
                self.refused(BadGroup, None, function, one, value, None, None)
            for value in samples.STRANGE + [[[0, 1, 2]], [[0, 1, 2]] * 3, [[0, 1], [0, 1]], [[0, 1, 2], [0, 1, 3]],
                                            [[0, 1, 2], [0, 1, -1]], [[0, 1, 2], [0, 1, True]], [[0, 1, 2], [0, 1, 2.0]],
                                            [[0, 1, 2], None]]:
                self.refused(BadShape, "moves", function, one, other, value, None)
            for value in samples.STRANGE + [[[0, 0, 0]], [[0, 0, 0], [1, 1, 2]], [[0, 0], [1, 1]], [[0, 0, 0], [1, 1, True]],
                                            [[0, 0, 0], [1, 1, -1]], [[0, 0, 0], "111"], [[0, 0, 0], [1, 1, 1], [0, 0, 0]]]:
                self.refused(BadShape, "turns", function, one, other, moves, value)
        self.assertIsNone(pair_fault(tuple(map(tuple, one)), other, tuple(map(tuple, moves)), turns))

    def test_crossed_pairs(self):
        for one, other in (("one", "one"), ("one", "three"), ("two", "two"), ("two", "three"), ("three", "two"), ("four", "one"),
                           ("one", "twos")):
            one, other = GROUPS[one], GROUPS[other]
            found = crossed_pairs(one, other)
            self.assertEqual(found, sorted(all_pairs(one, other)))
            self.keeps_lists(crossed_pairs, one, other)

    def test_numbers_of_crossed_pairs(self):
        # Twelve, with three and four turns, and so on: by how often a group can be parted so.
        for one, other, many in (("three", "two", 2), ("two", "three", 2), ("four", "two", 2), ("twos", "two", 4), ("three", "twos", 6),
                                 ("three", "four", 2), ("three", "three", 1), ("two", "twos", 4)):
            found = crossed_pairs(GROUPS[one], GROUPS[other])
            self.assertEqual(len(found), many)
        for one in ("two", "three", "four", "twos"):
            for other in ("two", "three", "four", "twos"):
                found = crossed_pairs(GROUPS[one], GROUPS[other])
                self.assertEqual(found, sorted(found))
                self.assertEqual(len(set(found)), len(found))
                pair = tuple(tuple(tuple(row) for row in table) for table in trivial(GROUPS[one], GROUPS[other]))
                self.assertIn(pair, found)
                for moves, turns in found:
                    self.assertIsNone(wrong_plainly(GROUPS[one], GROUPS[other], moves, turns))
                swapped = [crossed_swapped(GROUPS[one], GROUPS[other], *pair) for pair in found]
                self.assertEqual(sorted(swapped), crossed_pairs(GROUPS[other], GROUPS[one]))

    def test_limit_of_pairs(self):
        for value in samples.STRANGE + [[[1]]]:
            self.refused(BadGroup, None, crossed_pairs, value, None)
            self.refused(BadGroup, None, crossed_pairs, samples.cyclic(5), value)
        self.refused(TooMany, 4, crossed_pairs, samples.cyclic(5), [[0]])
        self.refused(TooMany, 4, crossed_pairs, [[0]], samples.cyclic(5))
        self.refused(TooMany, 4, crossed_pairs, samples.SIX, samples.SIX)
        self.assertEqual(len(crossed_pairs(samples.cyclic(4), samples.FOUR)), 10)


class CrossedGroupTest(Case):

    def test_group(self):
        for one, other, moves, turns in some_pairs():
            f, g = len(one), len(other)
            found = self.unchanged(crossed_group, one, other, moves, turns)
            self.assertTrue(is_group(found))
            self.assertIs(type(found), tuple)
            for x, s in itertools.product(range(f), range(g)):
                self.assertIs(type(found[x * g + s]), tuple)
                for y, t in itertools.product(range(f), range(g)):
                    wanted = one[x][moves[s][y]] * g + other[turns[s][y]][t]
                    self.assertEqual(found[x * g + s][y * g + t], wanted)
            back = self.unchanged(crossed_from, found, [g * x for x in range(f)], list(range(g)))
            tables = [tuple(tuple(row) for row in table) for table in (one, other, moves, turns)]
            self.assertEqual(back, tuple(tables))

    def test_from(self):
        seen = 0
        for table in (samples.SIX, samples.TWELVE, samples.EIGHT, samples.QUATERNIONS, samples.FOUR, samples.cyclic(6)):
            for first in inner_groups(table):
                for second in inner_groups(table):
                    made = [table[x][s] for x in first for s in second]
                    if len(made) != len(table) or len(set(made)) != len(made):
                        self.refused(BadShape, "table", crossed_from, table, first, second)
                        continue
                    seen += 1
                    one, other, moves, turns = crossed_from(table, first, tuple(second))
                    self.assertTrue(is_group(one))
                    self.assertTrue(is_group(other))
                    self.assertIsNone(pair_fault(one, other, moves, turns))
                    for i, x in enumerate(first):
                        for k, s in enumerate(second):
                            self.assertEqual(table[s][x], table[first[moves[k][i]]][second[turns[k][i]]])
                    group = crossed_group(one, other, moves, turns)
                    for p, q in itertools.product(range(len(table)), repeat=2):
                        self.assertEqual(made[group[p][q]], table[made[p]][made[q]])
        self.assertGreater(seen, 30)

    def test_from_in_other_sequences(self):
        """Things are numbered by their places, in whatever sequence they are listed behind 0."""
        table = samples.SIX
        turn = next(k for k in range(6) if k and table[k][table[k][k]] == 0)
        swap = next(k for k in range(6) if k and table[k][k] == 0)
        for first in ([0, turn, table[turn][turn]], [0, table[turn][turn], turn]):
            one, other, moves, turns = crossed_from(table, first, [0, swap])
            self.assertEqual(one, tuple(map(tuple, samples.cyclic(3))))
            self.assertEqual((moves, turns), (((0, 1, 2), (0, 2, 1)), ((0, 0, 0), (1, 1, 1))))
            one, other, moves, turns = crossed_from(table, [0, swap], first)
            self.assertEqual((moves, turns), (((0, 1), (0, 1), (0, 1)), ((0, 0), (1, 2), (2, 1))))

    def test_from_refused(self):
        table = samples.SIX
        swap, more = [k for k in range(6) if k and table[k][k] == 0][:2]
        for value in samples.STRANGE + [[[1]], samples.cyclic(17)]:
            self.refused(BadGroup, None, crossed_from, value, None, None)
        wrong = samples.STRANGE + [[], [1], [swap, 0], [0, 0], [0, swap, swap], [0, 6], [0, -1], [0, True], [0, 1.0], [False],
                                   [0, swap, more], "0", [0, None], {0: 0}]
        for value in wrong:
            self.refused(BadShape, "first", crossed_from, table, value, None)
            self.refused(BadShape, "second", crossed_from, table, [0, swap], value)
        self.refused(BadShape, "table", crossed_from, table, [0, swap], [0, swap])
        self.refused(BadShape, "table", crossed_from, table, [0], [0])
        self.refused(BadShape, "table", crossed_from, table, list(range(6)), [0, swap])
        self.assertEqual(crossed_from(table, list(range(6)), [0])[2:], ((tuple(range(6)),), ((0,) * 6,)))

    def test_limits(self):
        four, five = samples.cyclic(4), samples.cyclic(5)
        self.assertEqual(len(crossed_group(four, four, *trivial(four, four))), 16)
        self.assertEqual(crossed_book(2, four, four, *trivial(four, four)).size, 16)
        self.refused(TooMany, 16, crossed_group, four, five, *trivial(four, five))
        self.refused(TooMany, 16, crossed_book, 2, four, five, *trivial(four, five))
        wide = samples.cyclic(16)
        swapped = crossed_swapped(wide, wide, *trivial(wide, wide))
        self.assertEqual(swapped, tuple(tuple(tuple(row) for row in table) for table in trivial(wide, wide)))
        moves, turns = trivial(four, five)
        moves[3][3] = 0
        self.refused(BadCrossed, wrong_plainly(four, five, moves, turns), crossed_group, four, five, moves, turns)
        self.assertIsNone(pair_fault(wide, wide, *trivial(wide, wide)))

    def test_swapped(self):
        for one, other, moves, turns in some_pairs():
            found = self.unchanged(crossed_swapped, one, other, moves, turns)
            self.assertIsNone(wrong_plainly(other, one, *found))
            bars, undone = [row.index(0) for row in map(list, one)], [row.index(0) for row in map(list, other)]
            for x, s in itertools.product(range(len(one)), range(len(other))):
                self.assertEqual(found[0][x][s], undone[turns[undone[s]][bars[x]]])
                self.assertEqual(found[1][x][s], bars[moves[undone[s]][bars[x]]])
            self.assertEqual(crossed_swapped(other, one, *found), (tuple(map(tuple, moves)), tuple(map(tuple, turns))))


class CrossedBookTest(Case):

    def test_book(self):
        for at, (one, other, moves, turns) in enumerate(some_pairs()):
            f, g = len(one), len(other)
            prime = (2, 3, 5, 7, 97)[at % 5]
            if f * g > 12 or (f * g > 8 and at % 3):
                continue
            book = self.unchanged(crossed_book, prime, one, other, moves, turns)
            self.assertIs(type(book), Splitbook)
            self.assertEqual((book.prime, book.size), (prime, f * g))
            pairs = [(s, x) for s in range(g) for x in range(f)]
            for p, (s, x) in enumerate(pairs):
                for q, (t, y) in enumerate(pairs):
                    wanted = samples.unit(f * g, s * f + one[x][y]) if turns[s][x] == t else (0,) * (f * g)
                    self.assertEqual(book.joins[p][q], wanted)
                square = [[0] * (f * g) for _ in pairs]
                for t, u in itertools.product(range(g), repeat=2):
                    if other[t][u] == s:
                        square[t * f + moves[u][x]][u * f + x] = 1
                self.assertEqual(book.splits[p], tuple(map(tuple, square)))
                bars, undone = list(one[moves[s][x]]).index(0), list(other[turns[s][x]]).index(0)
                self.assertEqual(book.back[p], samples.unit(f * g, undone * f + bars))
            self.assertEqual(book.one, tuple(int(x == 0) for s, x in pairs))
            self.assertEqual(book.counts, tuple(int(s == 0) for s, x in pairs))

    def test_facts(self):
        seen = {}
        for at, (one, other, moves, turns) in enumerate(some_pairs()):
            f, g = len(one), len(other)
            prime = (2, 3, 5, 7, 97)[at % 5]
            if f * g > 12 or (f * g > 8 and at % 3):
                continue
            book = crossed_book(prime, one, other, moves, turns)
            span = [samples.unit(f * g, s * f) for s in range(g)]
            self.assertIs(stays(book, span), True)
            self.assertEqual(inner_book(book, span), other_way(group_book(prime, other)))
            left = left_by(book, span)
            self.assertEqual(left.size, f)
            if f <= 4 and prime ** ((f - 1) ** 2) <= 20000:
                self.assertTrue(are_alike(left, group_book(prime, one)))
            swapped = crossed_book(prime, other, one, *crossed_swapped(one, other, moves, turns))
            rows = [samples.unit(f * g, moves[s][x] * g + turns[s][x]) for s in range(g) for x in range(f)]
            self.assertIs(is_leading(other_way(book), swapped, rows), True)
            self.assertEqual(plainly.rank(rows, prime), f * g)
            told = (all(turns[s][x] == s for s in range(g) for x in range(f))
                    and all(one[x][y] == one[y][x] for x in range(f) for y in range(f)))
            self.assertIs(joins_turned(book) == book, told)
            more = (all(moves[s][x] == x for s in range(g) for x in range(f))
                    and all(other[s][t] == other[t][s] for s in range(g) for t in range(g)))
            self.assertIs(splits_turned(book) == book, more)
            seen[told, more] = True
        self.assertEqual(len(seen), 4)

    def test_left_in_its_own_basis(self):
        """What is left is the group_book itself, thing by thing."""
        for one, other, moves, turns in some_pairs()[::4]:
            f, g = len(one), len(other)
            if f * g <= 8:
                book = crossed_book(5, one, other, moves, turns)
                left = left_by(book, [samples.unit(f * g, s * f) for s in range(g)])
                self.assertEqual(left, group_book(5, one))

    def test_by_hand(self):
        two = samples.cyclic(2)
        book = crossed_book(3, two, [[0]], [[0, 1]], [[0, 0]])
        self.assertEqual(book, group_book(3, two))
        book = crossed_book(3, [[0]], two, [[0], [0]], [[0], [1]])
        self.assertEqual(book, other_way(group_book(3, two)))

    def test_refused(self):
        two = samples.cyclic(2)
        for value in samples.STRANGE + [1, 4, 101, [3]]:
            if type(value) is not int or value not in (2, 3):
                self.refused(BadPrime, None, crossed_book, value, None, None, None, None)
        self.refused(BadGroup, None, crossed_book, 3, two, [[1]], None, None)
        self.refused(BadShape, "moves", crossed_book, 3, two, two, None, None)
        self.refused(BadShape, "turns", crossed_book, 3, two, two, [[0, 1], [0, 1]], None)
        self.refused(BadCrossed, ("units", 0, 0), crossed_book, 3, two, two, [[1, 0], [0, 1]], [[0, 0], [1, 1]])


if __name__ == "__main__":
    unittest.main()
