"""Point 116: pairs of things of a group that go past one another, and ways."""

import itertools
import unittest

from splitbooks.doubles import double
from splitbooks.errors import BadGroup, BadLetters, BadPair, BadPrime, BadThing
from splitbooks.families import group_book
from splitbooks.grouppairs import keeper, pair_led, pair_orbits, pairs_past, ways
from splitbooks.simples import middle
from tests import samples
from tests.helping import Case

GROUPS = {"one": [[0]], "two": samples.cyclic(2), "three": samples.cyclic(3), "four": samples.FOUR, "six": samples.SIX,
          "eight": samples.EIGHT, "quaternions": samples.QUATERNIONS, "ten": samples.TEN, "twelve": samples.TWELVE,
          "fourteen": samples.FOURTEEN, "sixteen": samples.cyclic(16),
          "four and four": samples.beside_groups(samples.FOUR, samples.FOUR),
          "six and two": samples.beside_groups(samples.SIX, samples.cyclic(2)),
          "eight and two": samples.beside_groups(samples.QUATERNIONS, samples.cyclic(2))}


def undone(table, x):
    return list(table[x]).index(0)


def turned(table, z, x):
    return table[table[z][x]][undone(table, z)]


def lots(table):
    """The number of lots of things that turning about makes of one another."""
    n = len(table)
    return len({min(turned(table, z, x) for z in range(n)) for x in range(n)})


class GroupPairsTest(Case):

    def test_keeper(self):
        for name, table in GROUPS.items():
            n = len(table)
            for thing in range(n):
                found = self.unchanged(keeper, table, thing)
                self.assertIs(type(found), list)
                self.assertEqual(found, [x for x in range(n) if table[x][thing] == table[thing][x]])
            self.keeps_lists(keeper, table, 0)
            self.assertEqual(keeper(tuple(map(tuple, table)), 0), list(range(n)))

    def test_pairs(self):
        for name, table in GROUPS.items():
            n = len(table)
            with self.subTest(name=name):
                found = self.unchanged(pairs_past, table)
                self.assertEqual(found, [(x, y) for x in range(n) for y in range(n) if table[x][y] == table[y][x]])
                self.assertIs(type(found), list)
                self.assertTrue(all(type(pair) is tuple for pair in found))
                self.assertEqual(len(found), n * lots(table))
                self.keeps_lists(pairs_past, table)

    def test_orbits(self):
        for name, table in GROUPS.items():
            n = len(table)
            with self.subTest(name=name):
                found = self.unchanged(pair_orbits, table)
                self.assertIs(type(found), list)
                pairs = pairs_past(table)
                least = {min((turned(table, z, x), turned(table, z, y)) for z in range(n)) for x, y in pairs}
                self.assertEqual(found, sorted(least))
                triples = sum(all(table[a][b] == table[b][a] for b in pair) for pair in pairs for a in range(n))
                self.assertEqual(triples, n * len(found))
                self.keeps_lists(pair_orbits, table)
        for prime in (2, 3, 5, 97):
            for table in (samples.cyclic(2), samples.cyclic(3), samples.cyclic(4), samples.FOUR):
                self.assertEqual(len(pair_orbits(table)), len(middle(double(group_book(prime, table)))))

    def test_pair_led(self):
        for name, table in GROUPS.items():
            if len(table) > 12:
                continue
            for pair in pairs_past(table):
                x, y = pair
                self.assertEqual(pair_led(table, pair, ""), pair)
                self.assertEqual(pair_led(table, pair, "s"), (undone(table, y), x))
                self.assertEqual(pair_led(table, pair, "t"), (x, table[x][y]))
                self.assertEqual(pair_led(table, pair, "ssss"), pair)
                self.assertEqual(pair_led(table, pair, "ststst"), pair)
                here = pair
                for letter in "sttsttst":
                    here = pair_led(table, here, letter)
                    self.assertIn(here, pairs_past(table))
                self.assertEqual(pair_led(table, pair, "sttsttst"), here)
                self.assertIs(type(here), tuple)
        self.assertEqual(pair_led(samples.cyclic(5), (1, 2), "st"), (3, 4))
        self.assertEqual(pair_led(samples.cyclic(16), (1, 0), "t" * 1000), (1, 1000 % 16))

    def test_pair_refused(self):
        table = samples.SIX
        for value in samples.STRANGE + [(1,), (1, 1, 1), (1, 2), (6, 0), (0, 6), (-1, 0), (True, 0), (0, False), (0.0, 0),
                                        ("0", 0), "00", {0: 0}, (None, 0), ((0, 0),), [0, 0], 0]:
            self.refused(BadPair, None, pair_led, table, value, "s")
            self.refused(BadPair, None, pair_led, table, value, None)
        for value in [None, 1, ["s"], ("s",), b"s", "S", "u", "s t", "st ", " ", "\n", "stst1", {"s": 1}, True, {"s"}]:
            self.refused(BadLetters, None, pair_led, table, (0, 0), value)
        for value in samples.STRANGE + samples.WRONG_GROUPS:
            self.refused(BadGroup, None, pair_led, value, None, None)
            self.refused(BadGroup, None, keeper, value, None)
            self.refused(BadGroup, None, pairs_past, value)
            self.refused(BadGroup, None, pair_orbits, value)
            self.refused(BadGroup, None, ways, 3, value, None)
            if value is not None:
                self.refused(BadPrime, None, ways, value, None, None)
        for value in (0, 1, 4, 101, True, "3", 3.0, None):
            self.refused(BadPrime, None, ways, value, [[0]], 0)
        for value in samples.STRANGE + [6, -1, 6.0, "0", [0], (0,)]:
            self.refused(BadThing, None, keeper, table, value)
            self.refused(BadThing, None, ways, 5, table, value)

    def test_ways(self):
        for name, table in GROUPS.items():
            n = len(table)
            for prime in (2, 3, 5, 7, 13, 17, 97):
                for thing in range(n):
                    with self.subTest(name=name, prime=prime, thing=thing):
                        found = self.unchanged(ways, prime, table, thing)
                        self.assertIs(type(found), list)
                        self.assertEqual(found, sorted(set(found)))
                        things = keeper(table, thing)
                        for way in found:
                            self.numbers_within(prime, way, 1)
                            self.assertEqual(len(way), n)
                            self.assertTrue(all((way[x] != 0) == (x in things) for x in range(n)))
                            for x, y in itertools.product(things, repeat=2):
                                self.assertEqual(way[table[x][y]], way[x] * way[y] % prime)
                        self.assertEqual(len(found), self.many_ways(prime, table, things))
        self.keeps_lists(ways, 5, samples.cyclic(4), 1)

    def many_ways(self, prime, table, things):
        """The number of ways, counted as lots: those of a group that falls apart into turns, told by powers."""
        # Ways are told of what is left once things that are turned about count as one: by how many things
        # there are of which some power is one.
        parts = [0]
        for x, y in itertools.product(things, repeat=2):
            made = table[table[x][y]][undone(table, table[y][x])]
            if made not in parts:
                parts.append(made)
        while True:
            more = [table[x][y] for x in parts for y in parts if table[x][y] not in parts]
            if not more:
                break
            parts.append(more[0])
        left = {}
        for x in things:
            left[min(table[x][y] for y in parts)] = True
        # Of a group in which all go past one another there are as many ways as things of which prime - 1 factors are one.
        many = 0
        for x in left:
            power = 0
            for _ in range(prime - 1):
                power = min(table[table[power][x]][y] for y in parts)
            many += power == min(parts)
        return many

    def test_by_hand(self):
        self.assertEqual(keeper(samples.SIX, 0), [0, 1, 2, 3, 4, 5])
        self.assertEqual(ways(3, samples.cyclic(2), 1), [(1, 1), (1, 2)])
        self.assertEqual(ways(2, samples.cyclic(2), 1), [(1, 1)])
        self.assertEqual(ways(5, samples.cyclic(4), 0), [(1, 1, 1, 1), (1, 2, 4, 3), (1, 3, 4, 2), (1, 4, 1, 4)])
        self.assertEqual(ways(3, samples.SIX, 1), [tuple(1 if x in (0, 1) else 0 for x in range(6)),
                                                   tuple({0: 1, 1: 2}.get(x, 0) for x in range(6))])
        self.assertEqual(pair_orbits(samples.cyclic(2)), [(0, 0), (0, 1), (1, 0), (1, 1)])


if __name__ == "__main__":
    unittest.main()
