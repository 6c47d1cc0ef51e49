"""Point 111: free words, braids that are alike, and orders that part those that are not."""

import itertools
import unittest

from splitbooks.braids import is_braid, orders_led, things_led
from splitbooks.errors import BadBraid, BadStrands, TooMany
from splitbooks.freewords import are_alike_braids, is_parting, parting_orders, words_led
from tests import samples
from tests.braidsamples import NO_STRANDS, alike_pairs, moved, some_braid
from tests.helping import Case


def reduced(numbers):
    found = []
    for number in numbers:
        if found and found[-1] == -number:
            found.pop()
        else:
            found.append(number)
    return tuple(found)


def words_plainly(strands, braid):
    """The words, and the greatest number of numbers behind some step."""
    row = [(k,) for k in range(1, strands + 1)]
    most = 0
    for step in braid:
        k = abs(step)
        x, y = row[k - 1], row[k]
        if step > 0:
            row[k - 1:k + 1] = [y, reduced(y + x + tuple(-n for n in y[::-1]))]
        else:
            row[k - 1:k + 1] = [reduced(tuple(-n for n in x[::-1]) + y + x), x]
        most = max(most, sum(map(len, row)))
        if most > 100000:
            break
    return tuple(row), most


def value(table, word, row):
    """A word with things of a group in the place of its numbers."""
    total = 0
    for number in word:
        x = row[abs(number) - 1]
        total = table[total][x if number > 0 else list(table[x]).index(0)]
    return total


class FreeWordsTest(Case):

    def test_words(self):
        for strands in range(1, 9):
            for seed, many in enumerate((0, 1, 2, 5, 9, 12)):
                braid = some_braid(strands, many, seed)
                wanted, most = words_plainly(strands, braid)
                with self.subTest(strands=strands, braid=braid):
                    if most > 20000:
                        continue
                    found = self.unchanged(words_led, strands, braid)
                    self.assertIs(type(found), tuple)
                    for word in found:
                        self.assertIs(type(word), tuple)
                        self.assertEqual(reduced(word), word)
                    self.assertEqual(found, wanted)
                    self.assertEqual(words_led(strands, tuple(braid)), found)
                    # All words, joined from the last one on, are all strands, joined so.
                    self.assertEqual(reduced(sum(found[::-1], ())), tuple(range(strands, 0, -1)))

    def test_words_tell_things(self):
        for table in (samples.SIX, samples.QUATERNIONS):
            for strands, braid, _ in alike_pairs(8):
                row = [(3 * k + strands) % len(table) for k in range(strands)]
                found = words_led(strands, braid)
                self.assertEqual(things_led(table, row, braid), tuple(value(table, word, row) for word in found))

    def test_by_hand(self):
        self.assertEqual(words_led(2, []), ((1,), (2,)))
        self.assertEqual(words_led(2, [1]), ((2,), (2, 1, -2)))
        self.assertEqual(words_led(2, [-1]), ((-1, 2, 1), (1,)))
        self.assertEqual(words_led(2, [1, 1]), ((2, 1, -2), (2, 1, 2, -1, -2)))
        self.assertEqual(words_led(1, []), ((1,),))

    def test_alike(self):
        for strands, one, other in alike_pairs():
            if is_braid(strands, other):
                self.assertIs(self.unchanged(are_alike_braids, strands, one, other), True)
                self.assertIsNone(parting_orders(strands, one, other))
                self.assertIs(is_parting(strands, one, other, tuple((1, 0, 2) for _ in range(strands))), False)
        for k in range(1, 7):
            for one, other in (([k, -k], []), ([-k, k], []), ([k, k + 1, k], [k + 1, k, k + 1]), ([1, 3], [3, 1])):
                self.assertIs(are_alike_braids(8, one, other), True)
        self.assertIs(are_alike_braids(1, [], ()), True)

    def test_not_alike(self):
        for strands, one, other in ((2, [1], []), (2, [1], [-1]), (2, [1, 1], [1]), (3, [1, 2], [2, 1]),
                                    (3, [1, -2, 1], [-2, 1, -2]), (3, [1, 2] * 3, []), (3, [1, -2, 1, -2], [-2, 1, -2, 1]),
                                    (4, [1, 3], [1, 2]), (2, [1] * 40, [1] * 38), (8, [7], [-7]), (3, [1, 1, -2, -2], [-2, -2, 1, 1]),
                                    (4, [1, -3], []), (3, [1, 2, 1, -2, -1, -1], [])):
            with self.subTest(one=one, other=other):
                self.assertIs(are_alike_braids(strands, one, other), False)
                found = self.unchanged(parting_orders, strands, one, other)
                self.is_row_of_orders(strands, found)
                self.assertNotEqual(orders_led(found, one), orders_led(found, other))
                self.assertIs(is_parting(strands, one, other, found), True)
                self.assertIs(is_parting(strands, other, one, found), True)
                self.assertIs(is_parting(strands, one, one, found), False)
                self.assertEqual(parting_orders(strands, one, other), found)

    def is_row_of_orders(self, strands, found):
        self.assertIs(type(found), tuple)
        self.assertEqual(len(found), strands)
        for order in found:
            self.assertIs(type(order), tuple)
            self.assertEqual(sorted(order), list(range(len(found[0]))))
            self.assertTrue(all(type(number) is int for number in order))

    def test_all_short_braids(self):
        """Of two braids of three strands: alike just if all rows of orders of four are led alike, or parted else."""
        braids = [list(steps) for many in range(4) for steps in itertools.product((1, -1, 2, -2), repeat=many)]
        of_words = {}
        for braid in braids:
            of_words.setdefault(words_led(3, braid), []).append(braid)
        groups = list(of_words.values())
        for group in groups:
            for braid in group:
                self.assertIs(are_alike_braids(3, group[0], braid), True)
                self.assertIsNone(parting_orders(3, group[0], braid))
        for one, other in itertools.combinations([group[-1] for group in groups], 2):
            self.assertIs(are_alike_braids(3, one, other), False)
            found = parting_orders(3, one, other)
            self.assertNotEqual(orders_led(found, one), orders_led(found, other))

    def test_changed_by_moves(self):
        for seed in range(30):
            strands = 3 + seed % 3
            braid = some_braid(strands, 6, seed)
            other = moved(strands, braid, seed + 100, 4)
            more = braid[:3] + [1] + braid[3:]
            self.assertIs(are_alike_braids(strands, braid, other), True)
            self.assertIs(are_alike_braids(strands, braid, more), False)
            found = parting_orders(strands, other, more)
            self.assertIs(is_parting(strands, braid, more, found), True)
            self.assertIs(is_parting(strands, braid, other, found), False)

    def test_limit(self):
        told = set()
        for strands in (3, 4, 8):
            for many in range(8, 41):
                for braid in ([1, -2] * 20, [1, 1, -2] * 20, [k for k in (1, -2, 3, -1, 2, -3, 1, 2)] * 5):
                    braid = [step for step in braid[:many] if abs(step) < strands]
                    wanted, most = words_plainly(strands, braid)
                    told.add(most > 20000)
                    if most > 20000:
                        self.refused(TooMany, 20000, words_led, strands, braid)
                        self.refused(TooMany, 20000, are_alike_braids, strands, braid, [])
                        self.refused(TooMany, 20000, are_alike_braids, strands, [], braid)
                        self.refused(TooMany, 20000, parting_orders, strands, braid, braid)
                        # No words are asked for here.
                        self.assertIs(is_parting(strands, braid, braid, ((1, 0),) * strands), False)
                    else:
                        self.assertEqual(words_led(strands, braid), wanted)
        self.assertEqual(told, {True, False})

    def test_limit_behind_some_step(self):
        """Words that grow beyond the limit and shrink again."""
        braid = [1, -2] * 10
        self.assertGreater(words_plainly(3, braid)[1], 20000)
        back = braid + [-step for step in braid[::-1]]
        self.assertEqual(words_plainly(3, back[:0] + braid[:6] + [-step for step in braid[:6][::-1]])[0], ((1,), (2,), (3,)))
        self.refused(TooMany, 20000, words_led, 3, back)
        self.refused(TooMany, 20000, are_alike_braids, 3, back, [])
        self.refused(BadBraid, None, are_alike_braids, 3, back, None)

    def test_limit_to_the_number(self):
        """Words that have together 20000 numbers, and words that have one or two more."""
        just = [-2, 1, 1, -2, 1, 2, -2, -3, 1, 2, -3, -2, 2, -1, 2, -3, 1, 2, -3, -3, -3, -1, -1, 3, 2, -3, -1, -2, -1, -3, -1, -3, 2]
        self.assertEqual(words_plainly(4, just)[1], 20000)
        self.assertEqual(words_led(4, just), words_plainly(4, just)[0])
        self.assertIs(are_alike_braids(4, just, just), True)
        self.assertIs(is_parting(4, just, just[:-1], parting_orders(4, just, just[:-1])), True)
        more = [1, 3, -2, -2, 1, 4, 3, 2, -3, 2, 2, -4, -4, 2, -4, -1, -2, -2, 2, -2, 2, -1, -2, 1, 1, -2, -2, 3, 2, -2, -2, 3, -1, -2,
                3, -2]
        two = [3, 1, 2, -2, 3, 2, -3, -3, -2, -1, 2, 1, 1, 2, -2, 1, -1, -2, 3, 1, -1, 1, -2, -1, 3, -2, 1, -2, -2, 1, -3, 2, -3, 2,
               1, -3, -3, -3]
        for strands, braid, most in ((5, more, 20001), (4, two, 20002)):
            self.assertEqual(words_plainly(strands, braid)[1], most)
            self.refused(TooMany, 20000, words_led, strands, braid)
            self.refused(TooMany, 20000, are_alike_braids, strands, [], braid)
            self.refused(TooMany, 20000, parting_orders, strands, braid, [])

    def test_just_at_the_limit(self):
        """The greatest words that are let in, and long orders that part them."""
        for many in range(1, 41):
            braid = ([1, -2] * 20)[:many]
            if words_plainly(3, braid)[1] > 20000:
                break
            longest = braid
        found = parting_orders(3, longest, longest[:-1])
        self.assertIs(is_parting(3, longest, longest[:-1], found), True)
        self.refused(TooMany, 20000, words_led, 3, braid)

    def test_is_parting(self):
        one, other = [1], []
        self.assertIs(is_parting(2, one, other, ((1, 2, 0), (1, 0, 2))), True)
        self.assertIs(is_parting(2, one, other, ((0, 1), (0, 1))), False)
        # y and x instead of x and y: unlike, as long as x is not y.
        self.assertIs(is_parting(2, one, other, ((1, 0), (0, 1))), True)
        self.assertIs(is_parting(2, [1, 1], other, ((1, 0), (0, 1))), False)
        for wrong in samples.STRANGE + [
                [(1, 2, 0), (1, 0, 2)], ((1, 2, 0),), ((1, 2, 0), (1, 0, 2), (0, 1, 2)), ([1, 2, 0], (1, 0, 2)),
                ((1, 2, 0), (1, 0)), ((1, 2, 3), (1, 0, 2)), ((1, 2, 0), (True, 0, 2)), ((), ()), (), ((1, 1), (0, 1)),
                ((1, 2, 0), None), ("10", "01")]:
            self.assertIs(is_parting(2, one, other, wrong), False)
        for wrong in samples.STRANGE + NO_STRANDS + [True, 2.0]:
            for function, others in ((words_led, (None,)), (are_alike_braids, (None, None)), (parting_orders, (None, None)),
                                     (is_parting, (None, None, None))):
                self.refused(BadStrands, None, function, wrong, *others)
        for wrong in (None, [2], [0], [True], [1] * 41, "1", 1):
            self.refused(BadBraid, None, words_led, 2, wrong)
            for function in (are_alike_braids, parting_orders):
                self.refused(BadBraid, None, function, 2, wrong, [])
                self.refused(BadBraid, None, function, 2, [], wrong)
            self.refused(BadBraid, None, is_parting, 2, wrong, [], None)
            self.refused(BadBraid, None, is_parting, 2, [], wrong, None)


if __name__ == "__main__":
    unittest.main()
