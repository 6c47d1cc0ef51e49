"""Point 134: the desk."""

import random
import unittest

from splitbooks.desk import Desk
from splitbooks.errors import BadGroup, BadNumber, BadPrime, BadStart
from splitbooks.journals import journal_text, led_live
from splitbooks.live import LiveBook
from splitbooks.texts import book_text
from tests import samples
from tests.helping import Case
from tests.livesamples import NO_STARTS, STARTS, kept
from tests.test_live import state


class DeskTest(Case):

    def answers(self, desk, *pairs):
        for line, answer in pairs:
            found = desk.say(line)
            self.assertIs(type(found), str)
            self.assertEqual((line, found), (line, answer))

    def unmoved(self, desk, answer, *lines):
        before = state(desk.live)
        for line in lines:
            self.assertEqual((line, desk.say(line)), (line, answer))
            self.assertEqual(state(desk.live), before)

    def test_starts(self):
        for start in STARTS.values():
            desk = self.unchanged(Desk, start)
            self.assertIs(type(desk.live), LiveBook)
            self.assertEqual(desk.live.start, kept(start))
        for value in NO_STARTS:
            self.refused(BadStart, None, Desk, value)
        self.refused(BadPrime, None, Desk, ("slip", 4))
        self.refused(BadNumber, "prime", Desk, ("slip", 5))
        self.refused(BadGroup, None, Desk, ("group", 3, [[1]]))

    def test_deeds(self):
        desk = Desk(("group", 3, [[0, 1], [1, 0]]))
        self.unmoved(desk, "refused", "undo", "redo")
        self.answers(desk, ("other", "done"), ("joins", "done"), ("splits", "done"), ("basis 1 0 / 0 5", "done"),
                     ("twist 1 0 / 0 0", "refused"), ("basis 1 1 / 1 1", "refused"), ("double", "done"), ("double", "done"),
                     ("double", "refused"), ("undo", "done"), ("redo", "done"), ("undo", "done"), ("undo", "done"),
                     ("beside group 3 0 1 / 1 0", "done"), ("redo", "refused"), ("beside slip 2", "refused"),
                     ("beside group 3 " + " / ".join(["0 1 2 3 4", "1 2 3 4 0", "2 3 4 0 1", "3 4 0 1 2", "4 0 1 2 3"]), "refused"))
        self.assertEqual(desk.live.deeds(), [("other",), ("joins",), ("splits",), ("basis", ((1, 0), (0, 2))),
                                             ("beside", ("group", 3, ((0, 1), (1, 0))))])
        self.assertEqual(desk.live.book.size, 4)
        twist = Desk(("group", 3, [[0, 1], [1, 0]]))
        self.answers(twist, ("twist 5 2 / 2 1", "done"), ("twist 1 0 / 0 0", "done"), ("twist 1 0 / 0 1", "refused"),
                     ("twist 1", "refused"), ("basis 1", "refused"), ("basis 96", "refused"), ("basis 97", "?"))

    def test_told(self):
        for name, start in STARTS.items():
            desk = Desk(start)
            for deed in (None, "other", "joins"):
                if deed is not None:
                    self.answers(desk, (deed, "done"))
                live = desk.live
                self.unmoved(desk, str(live.told()["size"]), "size")
                self.unmoved(desk, str(live.told()["turns"]), "turns")
                self.unmoved(desk, "yes" if live.told()["parts"] else "no", "parts")
                self.unmoved(desk, book_text(live.book), "book")
                self.unmoved(desk, journal_text(live), "journal")
        desk = Desk(("shift", 3, 2, 2))
        self.answers(desk, ("size", "4"), ("turns", "4"), ("parts", "no"), ("journal", "live shift 3 2 2"))
        self.answers(Desk(("group", 3, [[0, 1], [1, 0]])), ("parts", "yes"), ("turns", "1"))

    def test_watching(self):
        desk = Desk(("group", 3, [[0, 1], [1, 0]]))
        self.answers(desk, ("thing a 1 2", "done"), ("row b 2 2", "done"), ("value a b", "0"), ("value b a", "0"),
                     ("row b 2 0", "done"), ("value a b", "2"), ("value b a", "2"), ("thing c 0 1", "done"), ("value c b", "0"))
        self.unmoved(desk, "refused", "value a c", "value a a", "value a d", "value d e", "thing a 1", "thing a 1 2 0", "row zz 0",
                     "drop d", "drop abcdefgh")
        self.assertEqual(desk.live.watched(), {"a": ("thing", (1, 2)), "b": ("row", (2, 0)), "c": ("thing", (0, 1))})
        self.answers(desk, ("drop a", "done"), ("drop a", "refused"), ("value a b", "refused"), ("row a 1 1", "done"),
                     ("value a c", "1"), ("value a b", "refused"))
        self.answers(desk, ("double", "done"), ("value a c", "1"), ("thing e 1 2", "refused"), ("thing e 1 2 0 1", "done"))
        self.answers(desk, ("undo", "done"), ("drop e", "refused"), ("thing thing 1 1", "done"), ("drop thing", "done"))

    def test_marks(self):
        desk = Desk(("group", 3, [[0, 1], [1, 0]]))
        self.unmoved(desk, "refused", "since a", "since mark")
        self.answers(desk, ("mark a", "done"), ("since a", "thing 1 0 / 0 1"), ("other", "done"), ("since a", "row 1 0 / 0 1"),
                     ("basis 1 1 / 0 1", "done"), ("mark b", "done"), ("since b", "thing 1 0 / 0 1"))
        kind, rows = desk.live.carried("a")
        told = kind + " " + " / ".join(" ".join(map(str, row)) for row in rows)
        self.answers(desk, ("since a", told), ("since a", "row 1 0 / 1 1"), ("undo", "done"), ("since b", "no"), ("since a", "row 1 0 / 0 1"),
                     ("redo", "done"), ("since b", "thing 1 0 / 0 1"), ("mark a", "done"), ("since a", "thing 1 0 / 0 1"))
        self.answers(desk, ("beside group 3 0 1 / 1 0", "done"))
        found = desk.say("since a")
        self.assertEqual(found, "thing 1 0 0 0 / 0 0 1 0")

    def test_all_else(self):
        desk = Desk(("group", 3, [[0, 1], [1, 0]]))
        desk.say("other")
        desk.say("joins")
        desk.say("undo")
        desk.say("thing a 1 1")
        desk.say("mark m")
        self.unmoved(desk, "?", *[value for value in samples.STRANGE if type(value) is not str], b"size", ["size"], ("other",), 1)
        self.unmoved(
            desk, "?", "", " ", "ab", "size ", " size", "Size", "size\n", "sizes", "told", "undo ", "redo 1", "undo\n", "parts no",
            "other ", "other 1", "basis", "basis 1 0", "basis 1 0 / 0", "basis 97 0 / 0 1", "basis 1 0 / 0 -1", "basis 01", "twist x",
            "beside slip 5", "beside", "beside shift 3 2 5", "beside other", "live group 3 0", "splitbook 3 1",
            "thing", "thing a", "thing a ", "thing a x", "thing a 3 0", "thing a 1 -1", "thing a 01 1", "thing a 1  1", "thing a 1 1 ",
            "thing A 1 1", "thing a1 1 1", "thing abcdefghi 1 1", "thing  a 1 1", "thing 1 1", "thing a 1 / 1", "things a 1 1",
            "row", "row b", "row b 1 3", "Row b 1 1", "row b +1 1", "row b \u0661 1", "row b " + "1" * 5000, "row b 1.0 1",
            "drop", "drop ", "drop a b", "drop A", "drop a ", "drop abcdefghi", "drop 1", "value", "value a", "value a b c", "value a ",
            "value a B", "value  a b", "value a 1", "mark", "mark ", "mark A", "mark m n", "mark abcdefghi", "mark m ", "since", "since ",
            "since m n", "since M", "since abcdefghi", "book a", "journal 1", "turns a", "watch a 1 1", "?", "done", "other\nother")

    def test_journal_is_led_again(self):
        chance = random.Random(3)
        for start in (STARTS["two over 3"], STARTS["slip"], STARTS["shift over 5"]):
            desk = Desk(start)
            for _ in range(25):
                line = chance.choice(["other", "joins", "splits", "undo", "redo", "double", "beside group 2 0 1 / 1 0", "basis 1", "x",
                                      "beside group 3 0 1 / 1 0", "basis 1 0 / 1 4", "mark a", "size"])
                before = desk.live.deeds()
                answer = desk.say(line)
                if answer in ("refused", "?"):
                    self.assertEqual(desk.live.deeds(), before)
                found = led_live(desk.say("journal"))
                self.assertEqual(found.book, desk.live.book)
                self.assertEqual(book_text(found.book), desk.say("book"))


if __name__ == "__main__":
    unittest.main()
