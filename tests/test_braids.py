"""Point 110: braids, and what they make of places, of things of groups and of orders."""

import itertools
import unittest

from splitbooks.braids import braid_undone, excess, is_braid, orders_led, places, things_led
from splitbooks.errors import BadBraid, BadGroup, BadOrders, BadRow, BadStrands
from tests import samples
from tests.braidsamples import NO_STRANDS, alike_pairs, some_braid
from tests.helping import Case

GROUPS = {"one": [[0]], "two": samples.cyclic(2), "three": samples.cyclic(3), "six": samples.SIX, "eight": samples.EIGHT,
          "quaternions": samples.QUATERNIONS, "twelve": samples.TWELVE, "sixteen": samples.cyclic(16)}


def undone(table, x):
    return list(table[x]).index(0)


def led_plainly(table, row, braid):
    row = list(row)
    for step in braid:
        k = abs(step)
        x, y = row[k - 1], row[k]
        if step > 0:
            row[k - 1:k + 1] = [y, table[table[y][x]][undone(table, y)]]
        else:
            row[k - 1:k + 1] = [table[table[undone(table, x)][y]][x], x]
    return tuple(row)


def put(p, q):
    return tuple(p[k] for k in q)


def orders_plainly(orders, braid):
    row = list(orders)
    for step in braid:
        k = abs(step)
        x, y = row[k - 1], row[k]
        turn = y if step > 0 else x
        back = tuple(turn.index(number) for number in range(len(turn)))
        if step > 0:
            row[k - 1:k + 1] = [y, put(put(y, x), back)]
        else:
            row[k - 1:k + 1] = [put(put(back, y), x), x]
    return tuple(row)


class BraidsTest(Case):

    def test_is_braid(self):
        for strands in range(1, 9):
            steps = [k for k in range(-strands + 1, strands) if k]
            for braid in [[], (), [*steps], tuple(steps), [steps[-1]] * 40 if steps else []]:
                self.assertIs(self.unchanged(is_braid, strands, braid), True)
            for wrong in samples.STRANGE + [
                    [0], [strands], [-strands], [strands + 1], [True], [False], ["1"], [1.0], [[1]], 1, 0, "1", {1: 1},
                    [1] * 41, [-1] * 41, [None] * 3, [2 ** 70], (1, 0), range(1), [1, 2, 0], iter([])]:
                if isinstance(wrong, (list, tuple)) and list(wrong) == []:
                    continue
                self.assertIs(is_braid(strands, wrong), False)
        self.assertIs(is_braid(2, [1] * 40), True)
        self.assertIs(is_braid(2, [1] * 41), False)
        self.assertIs(is_braid(1, [1]), False)
        self.assertIs(is_braid(8, [7, -7]), True)
        self.assertIs(is_braid(7, [7]), False)

    def test_strands(self):
        for value in samples.STRANGE + NO_STRANDS + [2.0, "2", [2], (2,), True]:
            for function in (is_braid, braid_undone, excess, places):
                self.refused(BadStrands, None, function, value, [])
                self.refused(BadStrands, None, function, value, None)
        for value in [None, 0, "", [0], [2], [-2], [True], [1] * 41, {1: 1}, {1}, [1.0], [None]]:
            for function in (braid_undone, excess, places):
                self.refused(BadBraid, None, function, 2, value)
        for function in (braid_undone, excess, places):
            self.refused(BadBraid, None, function, 1, [1])
            function(1, [])

    def test_undone_and_excess(self):
        for strands in range(1, 9):
            for many in (0, 1, 7, 40):
                braid = some_braid(strands, many, 3)
                found = self.unchanged(braid_undone, strands, braid)
                self.assertIs(type(found), list)
                self.assertEqual(found, [-step for step in braid[::-1]])
                self.assertEqual(braid_undone(strands, tuple(braid)), found)
                self.assertEqual(braid_undone(strands, found), braid)
                number = self.unchanged(excess, strands, braid)
                self.assertIs(type(number), int)
                self.assertEqual(number, sum(step > 0 for step in braid) - sum(step < 0 for step in braid))
                self.keeps_lists(braid_undone, strands, braid)
        self.assertEqual(excess(3, [1, -2, 1, 1]), 2)
        self.assertEqual(excess(2, [-1] * 40), -40)

    def test_places(self):
        for strands in range(1, 9):
            for many in (0, 1, 9, 40):
                braid = some_braid(strands, many, 4)
                row = list(range(strands))
                for step in braid:
                    k = abs(step)
                    row[k - 1], row[k] = row[k], row[k - 1]
                found = self.unchanged(places, strands, braid)
                self.assertIs(type(found), tuple)
                self.assertEqual(found, tuple(row))
                self.assertEqual(sorted(found), list(range(strands)))
        self.assertEqual(places(3, [1, 2]), (1, 2, 0))
        self.assertEqual(places(3, (-1, -2)), (1, 2, 0))

    def test_things_led(self):
        for name, table in GROUPS.items():
            n = len(table)
            for strands in range(1, 9):
                for seed in range(3):
                    braid = some_braid(strands, 5 * seed + strands, seed)
                    row = [(7 * seed + 3 * k + 1) % n for k in range(strands)]
                    with self.subTest(name=name, strands=strands):
                        found = self.unchanged(things_led, table, row, braid)
                        self.assertIs(type(found), tuple)
                        self.assertEqual(found, led_plainly(table, row, braid))
                        self.assertEqual(things_led(tuple(map(tuple, table)), tuple(row), tuple(braid)), found)
                        self.assertEqual(things_led(table, found, braid_undone(strands, braid)), tuple(row))
                        if all(table[x][y] == table[y][x] for x in row for y in row):
                            self.assertEqual(found, tuple(row[k] for k in places(strands, braid)))

    def test_things_by_hand(self):
        """In SIX things 1 and 2 are exchanges: k puts 2, and 2 joined to 1 joined to 2."""
        table = samples.SIX
        x, y = 1, 2
        self.assertEqual((table[x][x], table[y][y]), (0, 0))
        self.assertEqual(things_led(table, [x, y], [1]), (y, table[table[y][x]][y]))
        self.assertEqual(things_led(table, [x, y], [-1]), (table[table[x][y]][x], x))
        self.assertNotEqual(things_led(table, [x, y], [1]), things_led(table, [x, y], [-1]))

    def test_all_rows_of_alike_braids(self):
        for strands, one, other in alike_pairs():
            if not is_braid(strands, other):
                continue
            self.assertEqual(excess(strands, one), excess(strands, other))
            self.assertEqual(places(strands, one), places(strands, other))
            for table in (samples.SIX, samples.QUATERNIONS):
                n = len(table)
                rows = itertools.islice(itertools.product(range(n), repeat=strands), 0, 500, 7)
                for row in rows:
                    self.assertEqual(things_led(table, row, one), things_led(table, row, other))

    def test_moves(self):
        table = samples.TWELVE
        for k in range(1, 7):
            row = [(5 * j + k) % 12 for j in range(8)]
            for one, other in (([k, -k], []), ([-k, k], []), ([k, k + 1, k], [k + 1, k, k + 1]),
                               ([-k, -k - 1, -k], [-k - 1, -k, -k - 1])):
                self.assertEqual(things_led(table, row, one), things_led(table, row, other))
            for m in range(1, 8):
                if abs(k - m) >= 2:
                    for first, second in ((k, m), (-k, m), (k, -m), (-k, -m)):
                        self.assertEqual(things_led(table, row, [first, second]), things_led(table, row, [second, first]))
        self.assertNotEqual(things_led(samples.SIX, [1, 2, 1], [1, 2]), things_led(samples.SIX, [1, 2, 1], [2, 1]))
        self.assertNotEqual(things_led(samples.SIX, [1, 2, 1], [1, -2, 1]), things_led(samples.SIX, [1, 2, 1], [-2, 1, -2]))

    def test_things_refused(self):
        for value in samples.STRANGE + samples.WRONG_GROUPS:
            self.refused(BadGroup, None, things_led, value, None, None)
        table = samples.SIX
        for value in samples.STRANGE + [[], (), [6], [-1], [True], [0] * 9, "0", ["0"], [0.0], [[0]], {0: 0}, range(2), 0]:
            self.refused(BadRow, None, things_led, table, value, None)
            self.refused(BadRow, None, things_led, table, value, [])
        for row, value in (([0], [1]), ([0, 1], [2]), ([0, 1], [0]), ([0, 1], None), ([0] * 8, [8]), ([0, 1], [1] * 41),
                           ([0, 1], [True]), ([0, 1], "1"), ([0, 1], {1: 1})):
            self.refused(BadBraid, None, things_led, table, row, value)
        self.assertEqual(things_led(table, [5] * 8, [7]), (5,) * 8)
        self.assertEqual(things_led([[0]], [0], []), (0,))

    def test_orders_led(self):
        orders = list(itertools.permutations(range(3))) * 2
        longer = [(4, 0, 1, 2, 3), (1, 0, 2, 3, 4), (0, 2, 1, 4, 3), (2, 3, 4, 0, 1), (0, 1, 2, 3, 4)] * 2
        for source in (orders, longer, [(0,)] * 8, [(1, 0), (0, 1)] * 4):
            for strands in range(1, 9):
                row = source[:strands]
                for seed in range(3):
                    braid = some_braid(strands, 6 * seed + 1, seed)
                    found = self.unchanged(orders_led, row, braid)
                    self.assertIs(type(found), tuple)
                    for each in found:
                        self.assertIs(type(each), tuple)
                    self.assertEqual(found, orders_plainly(row, braid))
                    self.assertEqual(orders_led(tuple(row), tuple(braid)), found)
                    self.assertEqual(orders_led(found, braid_undone(strands, braid)), tuple(row))
        self.assertEqual(orders_led([(1, 2, 0), (1, 0, 2)], [1]), ((1, 0, 2), (2, 0, 1)))
        self.assertEqual(orders_led([(1, 2, 0), (1, 0, 2)], [-1]), ((2, 1, 0), (1, 2, 0)))

    def test_orders_are_as_things(self):
        """Orders of a group's things, as they are joined ahead, are led as the things are."""
        table = samples.SIX
        for row in itertools.product(range(6), repeat=3):
            braid = some_braid(3, 6, sum(row))
            orders = [tuple(table[x]) for x in row]
            self.assertEqual(orders_led(orders, braid), tuple(tuple(table[x]) for x in things_led(table, row, braid)))

    def test_orders_refused(self):
        right = (1, 0)
        for value in samples.STRANGE + [
                [], (), [()], [(), ()], [[0]], [[1, 0]], [right, [0, 1]], [right, (0,)], [right, (0, 1, 2)], [(1, 1)],
                [(0, 2)], [(1, 2)], [(0, -1)], [(False, True)], [(0, True)], [(0.0, 1)], ["01"], [right] * 9, right, {0: right},
                [right, None], [range(2)], [(0, None)], [([0], 1)]]:
            self.refused(BadOrders, None, orders_led, value, None)
            self.refused(BadOrders, None, orders_led, value, [])
        for value in (None, [2], [0], [True], [1] * 41, "1"):
            self.refused(BadBraid, None, orders_led, [right, right], value)
        self.refused(BadBraid, None, orders_led, [right], [1])
        self.assertEqual(orders_led([right] * 8, [7, -1]), (right,) * 8)


if __name__ == "__main__":
    unittest.main()
