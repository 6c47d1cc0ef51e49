"""Points 130 to 132: live splitbooks."""

import random
import unittest

from splitbooks.bases import joins_turned, other_way, splits_turned
from splitbooks.books import Splitbook
from splitbooks.errors import (
    BadBasis, BadBrackets, BadDeed, BadGroup, BadName, BadNumber, BadPrime, BadRow, BadShape, BadStart, BadTwist, NoMark,
    NothingLeft, NoWatch, TooMany)
from splitbooks.fourths import back_order
from splitbooks.leadings import is_leading
from splitbooks.live import LiveBook, is_deed, started
from splitbooks.simples import falls_apart
from tests import plainly, samples
from tests.helping import Case
from tests.livesamples import NO_DEEDS, NO_STARTS, STARTS, book_of, done, kept, kept_deed, led, some_deed, some_deeds
from tests.twistsamples import plain_twist

NO_NAMES = [value for value in samples.STRANGE if type(value) is not str] + [
    "", "abcdefghi", "A", "aB", "a1", "a b", " a", "a ", "a\n", "\u00e4", b"a", ["a"], ("a",), 1, "a_", "-", "."]
NAMES = ["a", "z", "abcdefgh", "thing", "row", "zzzzzzzz"]


def state(live):
    """All that is told of a live splitbook."""
    return (live.prime, live.start, live.book, live.standing, live.deeds(), live.watched(), live.values_told(), live.told(),
            live.marks(), [(live.marked(name), live.carried(name)) for name in live.marks()])


class LiveTest(Case):

    def unmoved(self, error, part, live, function, *args):
        """The refusal, and that it changes nothing, not even what may be done again."""
        before = state(live)
        self.refused(error, part, function, *args)
        self.assertEqual(state(live), before)

    def test_started(self):
        for name, start in STARTS.items():
            found = self.unchanged(started, start)
            self.assertIs(type(found), Splitbook)
            self.assertEqual(found, book_of(start))
            live = self.unchanged(LiveBook, start)
            self.assertEqual((live.prime, live.start, live.standing), (found.prime, kept(start), 0))
            self.assertEqual(live.book, found)
            self.assertEqual((live.deeds(), live.watched(), live.values_told(), live.marks()), ([], {}, {}, []))
            self.assertEqual(LiveBook(live.start).start, live.start)
            self.is_tuples(live.start)

    def is_tuples(self, value):
        self.assertNotIsInstance(value, list)
        if isinstance(value, tuple):
            for part in value:
                self.is_tuples(part)

    def test_wrong_starts(self):
        for value in NO_STARTS:
            for function in (started, LiveBook):
                self.refused(BadStart, None, function, value)
            self.assertIs(is_deed(("beside", value)), False)
        for error, part, start in (
                (BadPrime, None, ("group", 4, None)), (BadPrime, None, ("slip", "2")), (BadPrime, None, ("shift", True, 2, 2)),
                (BadPrime, None, ("brackets", 101, None, None)), (BadGroup, None, ("group", 3, [[1]])), (BadGroup, None, ("group", 3, None)),
                (BadNumber, "order", ("shift", 3, 5, 2)), (BadNumber, "root", ("shift", 3, 2, 1)), (BadNumber, "prime", ("slip", 5)),
                (BadBrackets, "size", ("brackets", 2, None, None)), (BadBrackets, "powers", ("brackets", 2, [[[0]]], None)),
                (BadBrackets, "brackets", ("brackets", 2, [[[1]]], [[0]]))):
            for function in (started, LiveBook):
                self.refused(error, part, function, start)
            self.assertIs(is_deed(("beside", start)), False)

    def test_is_deed(self):
        for value in NO_DEEDS:
            self.assertIs(is_deed(value), False)
            live = LiveBook(STARTS["two over 3"])
            live.do(("other",))
            live.do(("joins",))
            live.undo()
            self.unmoved(BadDeed, None, live, live.do, value)
            live.redo()
        for value in [("other",), ("joins",), ("splits",), ("double",), ("basis", [[0]]), ("basis", ((1, 2), [3, -4])),
                      ("twist", [[0] * 16] * 16), ("basis", [[2 ** 70]]), ("twist", [[97]])] + [
                          ("beside", start) for start in STARTS.values()]:
            self.assertIs(self.unchanged(is_deed, value), True)

    def test_each_kind(self):
        for name, start in STARTS.items():
            book = book_of(start)
            n = book.size
            deeds = [("other",), ("joins",), ("splits",), ("basis", samples.some_basis(n, book.prime, 5)),
                     ("twist", plain_twist(book)), ("beside", ("group", book.prime, [[0]])), ("double",),
                     ("beside", ("group", book.prime, samples.cyclic(2)))]
            for deed in deeds:
                live = LiveBook(start)
                if (deed[0] == "double" and n > 4) or (deed[0] == "beside" and len(deed[1][2]) * n > 16):
                    self.unmoved(TooMany, 16, live, live.do, deed)
                    continue
                with self.subTest(name=name, deed=deed[0]):
                    self.assertIsNone(self.unchanged(live.do, deed))
                    self.assertEqual(live.book, done(book, deed))
                    self.assertEqual((live.standing, live.deeds()), (1, [kept_deed(deed, book.prime)]))
                    self.is_tuples(live.deeds()[0])
                    self.assertIsNone(live.undo())
                    self.assertEqual((live.book, live.standing, live.deeds()), (book, 0, []))
                    self.assertIsNone(live.redo())
                    self.assertEqual((live.book, live.standing, live.deeds()),
                                     (done(book, deed), 1, [kept_deed(deed, book.prime)]))

    def test_refused_deeds(self):
        live = LiveBook(STARTS["shift"])
        live.watch_thing("a", [0, 1, 0, 0])
        live.mark("m")
        live.do(("other",))
        live.do(("joins",))
        live.undo()
        book = live.book
        for error, part, deed in (
                (BadBasis, None, ("basis", [[1]])), (BadBasis, None, ("basis", [[1] * 4] * 4)),
                (BadBasis, None, ("basis", [[1 if i == j else 0 for j in range(5)] for i in range(5)])),
                (BadTwist, None, ("twist", [[0] * 4] * 4)), (BadTwist, None, ("twist", [[1]])),
                (BadTwist, None, ("twist", samples.plain(4))), (BadShape, "prime", ("beside", ("slip", 2))),
                (BadShape, "prime", ("beside", ("group", 5, samples.cyclic(16)))),
                (TooMany, 16, ("beside", ("group", 3, samples.cyclic(5)))),
                (BadDeed, None, ("beside", ("group", 3, [[1]]))), (BadDeed, None, None)):
            self.unmoved(error, part, live, live.do, deed)
        # What was taken back may still be done again.
        live.redo()
        self.assertEqual(live.book, joins_turned(book))
        self.assertEqual(live.deeds(), [("other",), ("joins",)])
        live.do(("beside", ("group", 3, samples.cyclic(2))))
        self.unmoved(TooMany, 16, live, live.do, ("double",))

    def test_undo_and_redo(self):
        live = LiveBook(STARTS["two over 3"])
        self.unmoved(NothingLeft, None, live, live.undo)
        self.unmoved(NothingLeft, None, live, live.redo)
        deeds = [("other",), ("basis", ((1, 1), (0, 1))), ("joins",), ("beside", ("group", 3, ((0, 1), (1, 0))))]
        books = [live.book]
        for deed in deeds:
            live.do(deed)
            books.append(live.book)
        for many in (3, 2, 1, 0):
            live.undo()
            self.assertEqual((live.book, live.standing, live.deeds()), (books[many], many, deeds[:many]))
        self.unmoved(NothingLeft, None, live, live.undo)
        for many in (1, 2, 3):
            live.redo()
            self.assertEqual((live.book, live.standing, live.deeds()), (books[many], many, deeds[:many]))
        live.undo()
        # A deed makes an end of those taken back.
        live.do(("splits",))
        self.unmoved(NothingLeft, None, live, live.redo)
        self.assertEqual(live.deeds(), deeds[:2] + [("splits",)])
        live.undo()
        live.redo()
        self.assertEqual(live.deeds(), deeds[:2] + [("splits",)])

    def test_watched_is_undone(self):
        live = LiveBook(STARTS["two over 3"])
        live.watch_thing("a", [1, 2])
        live.watch_row("b", (0, 1))
        live.do(("basis", [[1, 1], [0, 1]]))
        ahead = {"a": ("thing", (1, 2)), "b": ("row", (0, 1))}
        now = {"a": ("thing", (1, 1)), "b": ("row", (1, 1))}
        self.assertEqual(live.watched(), now)
        live.watch_thing("c", [2, 2])
        live.unwatch("a")
        live.watch_row("b", [2, 2])
        live.undo()
        self.assertEqual(live.watched(), ahead)
        # What is watched between is led along as the deed is done again.
        live.watch_thing("d", [1, 1])
        live.unwatch("b")
        live.redo()
        self.assertEqual(live.watched(), {"a": ("thing", (1, 1)), "d": ("thing", (1, 0))})
        live.undo()
        self.assertEqual(live.watched(), {"a": ("thing", (1, 2)), "d": ("thing", (1, 1))})

    def test_watching(self):
        live = LiveBook(STARTS["shift"])
        for name in NAMES:
            self.assertIsNone(self.unchanged(live.watch_thing, name, [4, -1, 0, 2]))
            self.assertEqual(live.watched()[name], ("thing", (1, 2, 0, 2)))
            self.assertIsNone(self.unchanged(live.watch_row, name, (0, 3, 1, 1)))
            self.assertEqual(live.watched()[name], ("row", (0, 0, 1, 1)))
        self.assertEqual(list(live.watched()), sorted(NAMES))
        for function in (live.watch_thing, live.watch_row):
            for value in NO_NAMES:
                self.unmoved(BadName, None, live, function, value, None)
            for value in self.wrong_rows(4):
                self.unmoved(BadRow, None, live, function, "a", value)
        for value in NO_NAMES + ["b", "c"]:
            with self.assertRaises(NoWatch) as held:
                live.unwatch(value)
            self.assertIs(held.exception.name, value)
        self.assertIsNone(live.unwatch("a"))
        self.assertEqual(list(live.watched()), sorted(set(NAMES) - {"a"}))
        self.unmoved(NoWatch, "a", live, live.unwatch, "a")

    def test_returned_may_be_changed(self):
        live = LiveBook(STARTS["two over 3"])
        live.watch_thing("a", [1, 2])
        live.watch_row("b", [1, 2])
        live.do(("other",))
        live.mark("m")
        before = state(live)
        for function in (live.deeds, live.marks):
            function().append("more")
            function().clear()
        for function in (live.watched, live.values_told, live.told):
            told = function()
            told["more"] = 1
            told.pop(next(iter(told)))
            self.assertIs(type(told), dict)
        self.assertEqual(state(live), before)
        rows = [[1, 1], [0, 1]]
        live.do(("basis", rows))
        rows[0][0] = 0
        self.assertEqual(live.deeds()[-1], ("basis", ((1, 1), (0, 1))))
        start = ["group", 3, [[0, 1], [1, 0]]]
        live = LiveBook(tuple(start))
        start[2][0][0] = 1
        self.assertEqual(live.start, ("group", 3, ((0, 1), (1, 0))))

    def test_led_along(self):
        """Deeds of all kinds, one after the other: watched things and rows, values, told(); then all taken back."""
        seen = set()
        for name, start in STARTS.items():
            for seed in range(2):
                book = book_of(start)
                prime = book.prime
                live = LiveBook(start)
                watched = {}
                for at, row in enumerate(samples.some_things(book, 4, seed)):
                    watched["abcd"[at]] = ("row" if at % 2 else "thing", row)
                    (live.watch_row if at % 2 else live.watch_thing)("abcd"[at], row)
                values = self.values_plainly(watched, prime)
                self.assertEqual(live.values_told(), values)
                steps = [(book, dict(watched))]
                deeds = some_deeds(start, 5, seed * 10 + len(name))
                for at, deed in enumerate(deeds):
                    seen.add(deed[0])
                    live.do(deed)
                    for each, (kind, row) in list(watched.items()):
                        watched[each] = led(book, deed, kind, row)
                    book = done(book, deed)
                    steps.append((book, dict(watched)))
                    with self.subTest(name=name, seed=seed, deed=deed[0]):
                        self.assertEqual(live.book, book)
                        self.assertEqual(live.watched(), watched)
                        self.assertEqual(list(live.watched()), ["a", "b", "c", "d"])
                        self.assertEqual(live.values_told(), values)
                        self.assertEqual(list(live.values_told()), sorted(values))
                        self.told_plainly(live)
                again = LiveBook(live.start)
                for deed in live.deeds():
                    again.do(deed)
                self.assertEqual(again.book, live.book)
                self.assertEqual(again.told(), live.told())
                self.assertEqual(live.deeds(), [kept_deed(deed, prime) for deed in deeds])
                for at in range(len(deeds) - 1, -1, -1):
                    live.undo()
                    self.assertEqual((live.book, live.watched()), steps[at])
                for at in range(len(deeds)):
                    live.redo()
                    self.assertEqual((live.book, live.watched()), steps[at + 1])
        self.assertEqual(seen, {"other", "joins", "splits", "basis", "twist", "double", "beside"})

    def values_plainly(self, watched, prime):
        found = {}
        for one in sorted(watched):
            for other in sorted(watched):
                if one < other and watched[one][0] != watched[other][0]:
                    found[(one, other)] = plainly.count(prime, watched[one][1], watched[other][1])
        return found

    def told_plainly(self, live):
        book = live.book
        found = live.told()
        wanted = {"joins": joins_turned(book) == book, "parts": falls_apart(book), "rows part": falls_apart(other_way(book)),
                  "size": book.size, "splits": splits_turned(book) == book, "turns": back_order(book)}
        self.assertEqual(found, wanted)
        self.assertEqual(list(found), sorted(wanted))
        for word in wanted:
            self.assertIs(type(found[word]), type(wanted[word]))

    def test_facts_of_told(self):
        for name, start in STARTS.items():
            live = LiveBook(start)
            for deed in some_deeds(start, 6, len(name)):
                before = live.told()
                live.do(deed)
                if deed[0] in ("other", "joins", "splits", "basis", "double"):
                    self.assertEqual(live.told()["turns"], before["turns"])
                if deed[0] in ("twist", "joins", "splits"):
                    self.assertEqual(live.told()["parts"], before["parts"])

    def test_marks(self):
        live = LiveBook(STARTS["shift"])
        self.assertEqual(live.marks(), [])
        for value in NO_NAMES:
            self.unmoved(BadName, None, live, live.mark, value)
        for value in NO_NAMES + NAMES:
            for function in (live.marked, live.carried):
                with self.assertRaises(NoMark) as held:
                    function(value)
                self.assertIs(held.exception.name, value)
        self.assertIsNone(live.mark("b"))
        first = live.book
        self.assertEqual(live.carried("b"), ("thing", samples.plain(4)))
        live.do(("other",))
        live.mark("a")
        self.assertEqual(live.marks(), ["a", "b"])
        self.assertEqual((live.marked("a"), live.marked("b")), (other_way(first), first))
        self.assertEqual(live.carried("b"), ("row", samples.plain(4)))
        self.assertEqual(live.carried("a"), ("thing", samples.plain(4)))
        live.undo()
        self.assertEqual((live.marked("a"), live.marked("b")), (other_way(first), first))
        self.assertIsNone(live.carried("a"))
        self.assertEqual(live.carried("b"), ("thing", samples.plain(4)))
        live.redo()
        self.assertEqual(live.carried("a"), ("thing", samples.plain(4)))
        live.undo()
        live.do(("joins",))
        self.assertIsNone(live.carried("a"))
        live.undo()
        # The same deed, done anew, is the same beginning.
        live.do(("other",))
        self.assertEqual(live.carried("a"), ("thing", samples.plain(4)))
        live.mark("b")
        self.assertEqual(live.marked("b"), other_way(first))
        self.assertEqual(live.carried("b"), ("thing", samples.plain(4)))

    def test_carried(self):
        leadings = 0
        for name, start in STARTS.items():
            for seed in range(3):
                live = LiveBook(start)
                deeds = some_deeds(start, 5, seed * 7 + len(name))
                live.do(deeds[0])
                live.mark("m")
                book, rows, kind = live.book, samples.plain(live.book.size), "thing"
                since = set()
                for deed in deeds[1:]:
                    made = [led(live.book, deed, kind, row) for row in rows]
                    kind, rows = made[0][0], tuple(row for _, row in made)
                    live.do(deed)
                    since.add(deed[0])
                    with self.subTest(name=name, seed=seed):
                        found = live.carried("m")
                        self.assertEqual(found, (kind, rows))
                        self.assertIs(type(found), tuple)
                        self.numbers_within(live.prime, found[1], 2)
                        self.assertEqual((live.marked("m"), live.carried("m")), (book, found))
                        if since <= {"basis", "beside", "double"}:
                            leadings += 1
                            self.assertIs(is_leading(book, live.book, found[1]), True)
                for _ in deeds:
                    live.undo()
                self.assertIsNone(live.carried("m"))
        self.assertGreater(leadings, 5)

    def test_leadings_since(self):
        for start in (("group", 3, samples.cyclic(2)), ("brackets", 2, [[[0]]], [[1]]), ("group", 97, samples.cyclic(2))):
            live = LiveBook(start)
            live.mark("m")
            first = live.book
            deeds = [("basis", samples.some_basis(2, live.prime)), ("beside", ("group", live.prime, samples.cyclic(2))), ("double",)]
            for deed in deeds:
                live.do(deed)
                kind, rows = live.carried("m")
                self.assertEqual(kind, "thing")
                self.assertIs(is_leading(first, live.book, rows), True)

    def test_at_random(self):
        """Anything at any time, against lists that are kept beside."""
        chance = random.Random(11)
        for start in (STARTS["two over 3"], STARTS["brackets"], STARTS["shift"]):
            live = LiveBook(start)
            steps, at = [(live.book, {})], 0
            for _ in range(60):
                move = chance.randrange(5)
                book, watched = steps[at][:2]
                if move == 0 and at > 0:
                    live.undo()
                    at -= 1
                elif move == 1 and at + 1 < len(steps):
                    live.redo()
                    deed = steps[at + 1][2]
                    at += 1
                    steps[at] = (done(book, deed), {k: led(book, deed, *each) for k, each in watched.items()}, deed)
                elif move == 2:
                    name, row = chance.choice("ab"), samples.some_things(book, 1, chance.randrange(99))[0]
                    kind = chance.choice(["thing", "row"])
                    (live.watch_thing if kind == "thing" else live.watch_row)(name, row)
                    steps[at] = (book, {**watched, name: (kind, row)}) + steps[at][2:]
                elif move > 2:
                    deed = some_deed(book, chance) if book.size < 5 else (chance.choice(["other", "joins", "splits"]),)
                    live.do(deed)
                    at += 1
                    steps[at:] = [(done(book, deed), {k: led(book, deed, *each) for k, each in watched.items()}, deed)]
                self.assertEqual((live.book, live.watched(), live.standing), steps[at][:2] + (at,))
                self.assertEqual(live.deeds(), [kept_deed(step[2], live.prime) for step in steps[1:at + 1]])


if __name__ == "__main__":
    unittest.main()
