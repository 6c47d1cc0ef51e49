"""Point 115: cuts of surfaces, and the numbers of what is glued."""

import itertools
import unittest

from splitbooks.bases import beside, in_basis, other_way
from splitbooks.doings import joined, joined_all
from splitbooks.errors import BadCut, NotSimple
from splitbooks.families import group_book, shift_book, slip_book
from splitbooks.fewbooks import few_books
from splitbooks.simples import falls_apart_both_ways, middle
from splitbooks.surfaces import genus, glued_number, handle, is_cut
from splitbooks.swallowed import row_tells, swallowed_left
from tests import dense, plainly, samples
from tests.cutsamples import KNOWN, genus_plainly, handles, random_cut, renamed, some_cuts
from tests.helping import Case


def simple_books():
    """Books that are simple both ways, by name."""
    names = ["one thing", "two over 3", "two over 3, other basis", "two over 3, other way", "three over 7",
             "three over 7, other way, other basis", "four over 5", "two and two over 3, other basis", "six over 5",
             "six over 5, other way", "five over 97", "six over 97, other basis"]
    found = {name: samples.more_books()[name] for name in names}
    for at, book in enumerate(few_books(5, 4)[:5]):
        found[f"four things over 5: {at}"] = book
    found["quaternions over 3"] = samples.large_books()["quaternions over 3"]
    found["twelve over 5"] = group_book(5, samples.TWELVE)
    return found


def row_and_square(book):
    """The swallowed row that tells 1 of the swallowed thing with count 1, and the square that goes with it."""
    prime = book.prime
    thing = swallowed_left(book)
    count = plainly.count(prime, book.counts, thing)
    thing = tuple(pow(count, -1, prime) * number % prime for number in thing)
    row = swallowed_left(other_way(book))
    told = plainly.count(prime, row, thing)
    row = tuple(pow(told, -1, prime) * number % prime for number in row)
    form = [[plainly.count(prime, row, line) for line in square] for square in book.joins]
    return row, dense.undone(form, prime)


def glued_plainly(book, cut):
    """The sum over all ways to choose things for the edges."""
    prime, n = book.prime, book.size
    row, square = row_and_square(book)
    edges = sum(map(len, cut)) // 2
    pairs = [(i, j, square[i][j]) for i in range(n) for j in range(n) if square[i][j]]
    total = 0
    for choice in itertools.product(pairs, repeat=edges):
        number = 1
        for _, _, more in choice:
            number = number * more % prime
        for face in cut:
            thing = book.one
            for k in face:
                thing = joined(book, thing, samples.unit(n, choice[abs(k) - 1][0 if k > 0 else 1]))
            number = number * plainly.count(prime, row, thing) % prime
        total += number
    return total % prime


class SurfacesTest(Case):

    def test_cuts(self):
        for cut in some_cuts():
            self.assertIs(self.unchanged(is_cut, cut), True)
            self.assertIs(is_cut(tuple(tuple(face) for face in cut)), True)
            self.assertEqual(self.unchanged(genus, cut), genus_plainly(cut))
            self.assertIs(type(genus(cut)), int)
            self.assertEqual(genus(tuple(map(tuple, cut))), genus(cut))
            for seed in range(3):
                self.assertEqual(genus(renamed(cut, seed)), genus(cut))
        self.assertTrue({0, 1, 2, 3, 7, 15} <= {genus(cut) for cut in some_cuts()})

    def test_known(self):
        for number, cut in KNOWN:
            self.assertEqual(genus(cut), number)
        for many in range(16):
            self.assertEqual(genus(handles(many)), many)

    def test_near_to_cuts(self):
        for cut in [[[1, 2, -1, -2]], [[1, 2, 3], [-1, 4, -5], [-2, 5, -6], [-3, 6, -4]], [[1], [-1]], random_cut(30, 3, 1)]:
            self.assertIs(is_cut(cut), True)
            for at, face in enumerate(cut):
                for place in range(len(face)):
                    for wrong in (0, face[place - 1] if len(face) > 1 else 2, -face[place], 31, -31, True, str(face[place]),
                                  float(face[place]), None, [face[place]], 2 ** 70):
                        new = [list(each) for each in cut]
                        new[at][place] = wrong
                        self.assertIs(is_cut(new), False)
                    new = [list(each) for each in cut]
                    del new[at][place]
                    self.assertIs(is_cut(new), False)
                    new = [list(each) for each in cut]
                    new[at].append(face[place])
                    self.assertIs(is_cut(new), False)
                new = [list(each) for each in cut]
                for wrong in ([], None, "1", 1, {1: 1}, range(1)):
                    new[at] = wrong
                    self.assertIs(is_cut(new), False)
            self.assertIs(is_cut(cut + [[]]), False)
            self.assertIs(is_cut([[]] + cut), False)

    def test_what_is_no_cut(self):
        for value in samples.STRANGE + [
                [], (), [[]], [[1]], [[1, 1]], [[1, -2]], [[0]], [[0, 0]], [[1, -1], [2, -2]], [[1], [-1], [2], [-2]],
                [[2, -2]], [[1, -1, 3, -3]], [[1, -1, 2]], "1", [1, -1], {0: [1, -1]}, [[True, -1]], [[1.0, -1]],
                [[1, -1], None], [range(1, 2), [-1]]]:
            self.assertIs(is_cut(value), False)
            self.refused(BadCut, None, genus, value)
            self.refused(BadCut, None, glued_number, group_book(3, samples.cyclic(2)), value)

    def test_edges(self):
        """30 edges and 31."""
        self.assertIs(is_cut(handles(15)), True)
        more = [handles(15)[0] + [31, -31]]
        self.assertIs(is_cut(more), False)
        self.refused(BadCut, None, genus, more)
        for seed in range(3):
            self.assertIs(is_cut(random_cut(30, 1, seed)), True)
            self.assertIs(is_cut(random_cut(31, 1, seed)), False)

    def test_handle(self):
        for name, book in simple_books().items():
            prime, n = book.prime, book.size
            _, square = row_and_square(book)
            pairs = [(i, j, square[i][j]) for i in range(n) for j in range(n) if square[i][j]]
            with self.subTest(name=name):
                found = self.unchanged(handle, book)
                self.numbers_within(prime, found, 1)
                if len(pairs) > 20:
                    continue
                total = [0] * n
                for i, j, one in pairs:
                    for k, m, other in pairs:
                        thing = joined_all(book, [samples.unit(n, at) for at in (i, k, j, m)])
                        total = [so_far + one * other * number for so_far, number in zip(total, thing)]
                self.assertEqual(found, tuple(number % prime for number in total))
                for thing in samples.plain(n):
                    self.assertEqual(joined(book, thing, found), joined(book, found, thing))

    def test_by_own_sum(self):
        tried = 0
        for name, book in simple_books().items():
            _, square = row_and_square(book)
            ways = sum(number != 0 for row in square for number in row)
            for cut in some_cuts():
                edges = sum(map(len, cut)) // 2
                if ways ** edges > 700:
                    continue
                tried += 1
                with self.subTest(name=name, cut=cut):
                    self.assertEqual(self.unchanged(glued_number, book, cut), glued_plainly(book, cut))
        self.assertGreater(tried, 80)

    def test_by_genus(self):
        for name, book in simple_books().items():
            prime = book.prime
            row, _ = row_and_square(book)
            with self.subTest(name=name):
                power = book.one
                wanted = []
                for _ in range(16):
                    wanted.append(row_tells(book, row, power))
                    power = joined(book, power, handle(book))
                for cut in some_cuts():
                    self.assertEqual(glued_number(book, cut), wanted[genus(cut)])
                self.assertEqual(wanted[0], book.size % prime)
                self.assertEqual(wanted[1], len(middle(book)) % prime)

    def test_groups(self):
        """n ** (1 - 2 * g) times the number of rows for which the product is one."""
        for prime, table in ((3, samples.cyclic(2)), (5, samples.SIX), (97, samples.SIX), (5, samples.cyclic(3)),
                             (3, samples.EIGHT), (7, samples.QUATERNIONS), (2, samples.cyclic(3)), (5, [[0]])):
            n = len(table)
            undone = [row.index(0) for row in table]
            ends = {x: sum(table[table[table[a][b]][undone[a]]][undone[b]] == x for a in range(n) for b in range(n))
                    for x in range(n)}
            rows = {x: int(x == 0) for x in range(n)}
            book = group_book(prime, table)
            for g in range(4):
                many = rows[0]
                wanted = many * (n if g == 0 else pow(pow(n, -1, prime), 2 * g - 1, prime)) % prime
                self.assertEqual(glued_number(book, handles(g)), wanted)
                new = {x: 0 for x in range(n)}
                for x in range(n):
                    for y in range(n):
                        new[table[x][y]] += rows[x] * ends[y]
                rows = new

    def test_not_simple(self):
        books = {"two over 2": group_book(2, samples.cyclic(2)), "other way": other_way(group_book(2, samples.cyclic(2))),
                 "shift": shift_book(3, 2, 2), "slip": slip_book(2), "slip 3": slip_book(3), "six over 3": group_book(3, samples.SIX),
                 "six over 2, other way": other_way(group_book(2, samples.SIX)), "shift 97": shift_book(97, 2, 96),
                 "three over 3": group_book(3, samples.cyclic(3)),
                 "beside": beside(group_book(3, samples.cyclic(2)), shift_book(3, 2, 2))}
        for name, book in books.items():
            with self.subTest(name=name):
                self.refused(NotSimple, None, handle, book)
                self.refused(NotSimple, None, glued_number, book, [[1, -1]])
                self.refused(BadCut, None, glued_number, book, [[1]])
        for name, book in samples.books().items():
            if falls_apart_both_ways(book):
                handle(book)
            else:
                self.refused(NotSimple, None, handle, book)
        self.wants_books(handle, 1)
        self.wants_books(glued_number, 1, None)

    def test_other_bases(self):
        book = group_book(5, samples.SIX)
        more = in_basis(book, samples.some_basis(6, 5))
        for g in range(4):
            self.assertEqual(glued_number(more, handles(g)), glued_number(book, handles(g)))

    def test_by_hand(self):
        """Two over 3: L is 2 + 2 g, l is 2 times (1, 0); the square has 2 at each thing with itself; the handle is one."""
        book = group_book(3, samples.cyclic(2))
        row, square = row_and_square(book)
        self.assertEqual(row, (2, 0))
        self.assertEqual([list(each) for each in square], [[2, 0], [0, 2]])
        self.assertEqual(handle(book), (1, 0))
        self.assertEqual([glued_number(book, handles(g)) for g in range(3)], [2, 2, 2])


if __name__ == "__main__":
    unittest.main()
