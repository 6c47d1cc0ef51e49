"""Point 93: doings that are wide, and doings that are not."""

import functools
import itertools
import unittest

from splitbooks.bases import other_way
from splitbooks.doingtables import done, plain_doing, unmoved
from splitbooks.errors import BadRow, TooMany
from splitbooks.families import group_book
from splitbooks.joiners import row_undone
from splitbooks.smash import book_in_smash, smash, smash_doing, table_in_smash
from splitbooks.swallowed import swallowed_left
from splitbooks.wide import is_wide, kept_maps, pair_rows, smash_map, through_swallowed, ways_through, wide_rank
from tests import plainly, plainrooms, samples
from tests.helping import Case
from tests.test_doingtables import points_table, some_doings


@functools.lru_cache(None)
def wide_samples():
    """some_doings, and the other way's doings on the smash tables of some of them."""
    found = dict(some_doings())
    for name, (book, table, doing) in some_doings().items():
        if book.size * table.size <= 12:
            found[name + ": smashed"] = (other_way(book), smash(book, table, doing), smash_doing(book, table, doing))
    return found


def few(most):
    return {name: each for name, each in wide_samples().items() if each[0].size * each[1].size <= most}


def led(doing, i, b):
    return doing[i][b]


class WideTest(Case):

    def test_pair_rows(self):
        for name, (book, table, doing) in few(40).items():
            prime, n, size = book.prime, book.size, table.size
            with self.subTest(name=name):
                found = self.unchanged(pair_rows, book, table, doing)
                self.assertIs(type(found), list)
                self.assertEqual(len(found), size * size)
                for a, b in itertools.product(range(size), repeat=2):
                    row = found[a * size + b]
                    self.numbers_within(prime, row, 1)
                    self.assertEqual(len(row), size * n)
                    for i in range(n):
                        wanted = plainly.join(prime, table.joins, samples.unit(size, a), doing[i][b])
                        self.assertEqual(tuple(n % prime for n in row[i::n]), wanted)
                rank = plainly.rank(found, prime) if size * n <= 24 else wide_rank(book, table, doing)
                self.assertEqual(wide_rank(book, table, doing), rank)
                self.assertIs(is_wide(book, table, doing), rank == size * n)
        book, table, doing = some_doings()["two exchanges points"]
        self.keeps_lists(pair_rows, book, table, doing)

    def test_some_are_wide(self):
        told = {name: is_wide(*each) for name, each in few(40).items()}
        self.assertGreater(sum(told.values()), 20)
        self.assertGreater(sum(not each for each in told.values()), 20)
        self.assertIs(told["two exchanges points"], True)
        self.assertIs(is_wide(*some_doings()["six moves points"]), True)
        # By turning about nothing that is not moved makes more.
        self.assertIs(told["two over 3, other basis: turning"], False)

    def test_through_swallowed(self):
        for name, (book, table, doing) in few(24).items():
            prime = book.prime
            whole = smash(book, table, doing)
            with self.subTest(name=name):
                found = self.unchanged(through_swallowed, book, table, doing)
                self.is_tidy(prime, whole.size, found)
                things = table_in_smash(book, table, doing)
                middle = plainly.lead(prime, book_in_smash(book, table, doing), swallowed_left(book))
                rows = []
                for a, b in itertools.product(things, repeat=2):
                    row = plainly.join(prime, whole.joins, a, middle)
                    rows.append(plainly.join(prime, whole.joins, row, b))
                self.assertEqual(found, plainly.tidy(rows, prime))
                self.assertEqual(len(found), wide_rank(book, table, doing))
                for row in found[:4]:
                    for thing in samples.plain(whole.size):
                        for pair in ((row, thing), (thing, row)):
                            self.assertTrue(plainly.is_sum(plainly.join(prime, whole.joins, *pair), found, prime))

    def test_ways_through(self):
        seen = 0
        for name, (book, table, doing) in few(36).items():
            prime, n = book.prime, book.size
            with self.subTest(name=name):
                found = self.unchanged(ways_through, book, table, doing)
                if not is_wide(book, table, doing):
                    self.assertIsNone(found)
                    continue
                seen += 1
                self.assertIs(type(found), list)
                for pair in found:
                    self.assertIs(type(pair), tuple)
                    self.assertEqual(len(pair), 2)
                    self.numbers_within(prime, pair, 2)
                swallowed = swallowed_left(book)
                halves = plainrooms.pairs(plainly.split(prime, book.splits, swallowed))
                total = [0] * (table.size * n)
                for x, y in found:
                    for p, q, number in halves:
                        row = plainly.join(prime, table.joins, x, plainly.lead(prime, doing[p], y))
                        for c, more in enumerate(row):
                            total[c * n + q] += number * more
                wanted = tuple(a * x % prime for a in table.one for x in book.one)
                self.assertEqual(tuple(number % prime for number in total), wanted)
                self.assertEqual(ways_through(book, table, doing), found)
                still = unmoved(book, table, doing)
                for a in samples.plain(table.size):
                    self.assertTrue(plainly.is_sum(done(book, table, doing, swallowed, a), still, prime))
                    total = (0,) * table.size
                    for x, y in found:
                        row = done(book, table, doing, swallowed, plainly.join(prime, table.joins, y, a))
                        more = plainly.join(prime, table.joins, x, row)
                        total = tuple((so_far + number) % prime for so_far, number in zip(total, more))
                    self.assertEqual(total, a)
        self.assertGreater(seen, 15)
        self.keeps_lists(ways_through, *some_doings()["two exchanges points"])

    def test_smash_map(self):
        for name, (book, table, doing) in few(20).items():
            prime, n, size = book.prime, book.size, table.size
            whole = smash(book, table, doing)
            units = samples.plain(whole.size)
            with self.subTest(name=name):
                maps = [self.unchanged(smash_map, book, table, doing, unit) for unit in units]
                for a, x in itertools.product(range(size), range(n)):
                    wanted = tuple(plainly.join(prime, table.joins, samples.unit(size, a), doing[x][b])
                                   for b in range(size))
                    self.assertEqual(maps[a * n + x], wanted)
                    self.numbers_within(prime, maps[a * n + x], 2)
                thing = samples.some_things(whole, 1, 3)[0]
                wanted = tuple(tuple(sum(number * rows[b][c] for number, rows in zip(thing, maps)) % prime
                                     for c in range(size)) for b in range(size))
                for spelled in self.spelled(prime, thing):
                    self.assertEqual(smash_map(book, table, doing, spelled), wanted)
                # What two things are joined to leads as the second one, and then the first one.
                other = samples.some_things(whole, 1, 4)[0]
                row = plainly.join(prime, whole.joins, thing, other)
                first = smash_map(book, table, doing, other)
                self.assertEqual(smash_map(book, table, doing, row),
                                 tuple(plainly.lead(prime, wanted, line) for line in first))

    def test_kept_maps(self):
        wide = 0
        for name, (book, table, doing) in few(36).items():
            prime, size = book.prime, table.size
            if size > 8:
                self.refused(TooMany, 8, kept_maps, book, table, doing)
                continue
            with self.subTest(name=name):
                found = self.unchanged(kept_maps, book, table, doing)
                self.is_tidy(prime, size * size, found)
                still = unmoved(book, table, doing)
                for row in found:
                    rows = [row[k * size:(k + 1) * size] for k in range(size)]
                    for a, u in itertools.product(samples.plain(size), still):
                        first = plainly.lead(prime, rows, plainly.join(prime, table.joins, a, u))
                        self.assertEqual(first, plainly.join(prime, table.joins, plainly.lead(prime, rows, a), u))
                maps = [tuple(number for row in smash_map(book, table, doing, unit) for number in row)
                        for unit in samples.plain(size * book.size)]
                for row in maps:
                    self.assertTrue(plainly.is_sum(row, found, prime))
                if is_wide(book, table, doing):
                    wide += 1
                    self.assertEqual(plainly.tidy(maps, prime), found)
                    self.assertEqual(len(found), size * book.size)
                # Which maps are kept, by all maps that have 1 at one place and what they lose.
                if size <= 3:
                    self.assertEqual(found, self.kept_plainly(prime, table, still))
        self.assertGreater(wide, 10)
        self.keeps_lists(kept_maps, *some_doings()["two exchanges points"])

    def kept_plainly(self, prime, table, still):
        size = table.size
        equations = []
        for a, u in itertools.product(samples.plain(size), still):
            joined = plainly.join(prime, table.joins, a, u)
            for c in range(size):
                row = [0] * (size * size)
                for k in range(size):
                    row[k * size + c] += joined[k]
                    for m in range(size):
                        behind = plainly.join(prime, table.joins, samples.unit(size, m), u)
                        row[k * size + m] -= a[k] * behind[c]
                equations.append([number % prime for number in row])
        told = plainly.tidy(equations, prime)
        places = [next(k for k, number in enumerate(row) if number) for row in told]
        free = [k for k in range(size * size) if k not in places]
        found = []
        for k in free:
            row = [0] * (size * size)
            row[k] = 1
            for place, line in zip(places, told):
                row[place] = -line[k] % prime
            found.append(row)
        return plainly.tidy(found, prime)

    def test_facts(self):
        """smash_doing is wide; where unmoved things can be undone the sizes multiply."""
        seen = 0
        for name, (book, table, doing) in wide_samples().items():
            if name.endswith(": smashed"):
                self.assertIs(is_wide(book, table, doing), True)
            if book.size * table.size > 80 or not is_wide(book, table, doing):
                continue
            still = unmoved(book, table, doing)
            prime = book.prime
            if prime ** len(still) > 300:
                continue
            sums = [tuple(sum(n * row[k] for n, row in zip(numbers, still)) % prime for k in range(table.size))
                    for numbers in itertools.product(range(prime), repeat=len(still))]
            if all(row_undone(prime, table.joins, table.one, row) is not None for row in sums if any(row)):
                seen += 1
                self.assertEqual(table.size, book.size * len(still))
        self.assertGreater(seen, 10)

    def test_limits(self):
        book, table = group_book(3, samples.cyclic(6)), points_table(3, 6)
        wide = points_table(3, 7)
        for function, others in ((through_swallowed, ()), (ways_through, ()), (smash_map, ([0] * 36,))):
            function(book, table, plain_doing(book, table), *others)
            self.refused(TooMany, 36, function, book, wide, plain_doing(book, wide), *others)
        self.refused(TooMany, 36, smash_map, book, wide, plain_doing(book, wide), None)
        self.assertEqual(wide_rank(book, wide, plain_doing(book, wide)), 7)
        self.assertEqual(len(pair_rows(book, wide, plain_doing(book, wide))), 49)
        one = group_book(5, [[0]])
        self.assertEqual(len(kept_maps(one, points_table(5, 8), plain_doing(one, points_table(5, 8)))), 8)
        self.refused(TooMany, 8, kept_maps, one, points_table(5, 9), plain_doing(one, points_table(5, 9)))

    def test_refused(self):
        for function in (pair_rows, wide_rank, is_wide, through_swallowed, ways_through, kept_maps):
            self.refuses_doings(function)
        self.refuses_doings(smash_map, [0] * 4)
        book, table, doing = some_doings()["two exchanges points"]
        for value in self.wrong_rows(4):
            self.refused(BadRow, None, smash_map, book, table, doing, value)

    def test_by_hand(self):
        """Two points that are exchanged: each point joined to itself, and to the other one that is led to it."""
        book, table, doing = some_doings()["two exchanges points"]
        self.assertEqual(pair_rows(book, table, doing), [(1, 0, 0, 0), (0, 1, 0, 0), (0, 0, 0, 1), (0, 0, 1, 0)])
        self.assertEqual(wide_rank(book, table, doing), 4)
        self.assertEqual(len(through_swallowed(book, table, doing)), 4)
        self.assertEqual(ways_through(book, table, doing), [((1, 0), (1, 0)), ((0, 1), (0, 1))])
        self.assertEqual(smash_map(book, table, doing, (0, 1, 0, 0)), ((0, 0), (1, 0)))
        self.assertEqual(kept_maps(book, table, doing), list(samples.plain(4)))
        still = points_table(3, 2)
        self.assertEqual(wide_rank(book, still, plain_doing(book, still)), 2)
        self.assertIsNone(ways_through(book, still, plain_doing(book, still)))


if __name__ == "__main__":
    unittest.main()
