"""Point 134: journals."""

import unittest

from splitbooks.errors import BadLive, BadText
from splitbooks.families import group_book
from splitbooks.journals import journal_text, led_live
from splitbooks.live import LiveBook
from tests import samples
from tests.helping import Case
from tests.livesamples import STARTS, some_deeds

JOURNAL = "live group 3 0 1 / 1 0\nother\nbasis 1 0 / 2 1\nbeside group 3 0\ndouble"


class JournalsTest(Case):

    def test_there_and_back(self):
        for name, start in STARTS.items():
            for seed in range(2):
                live = LiveBook(start)
                deeds = some_deeds(start, 5, seed + len(name))
                for many, deed in enumerate([None] + deeds):
                    if deed is not None:
                        live.do(deed)
                    with self.subTest(name=name, many=many):
                        text = journal_text(live)
                        self.assertIs(type(text), str)
                        self.assertEqual(len(text.split("\n")), many + 1)
                        found = led_live(text)
                        self.assertIs(type(found), LiveBook)
                        self.assertEqual((found.start, found.book, found.deeds(), found.standing, found.prime),
                                         (live.start, live.book, live.deeds(), live.standing, live.prime))
                        self.assertEqual((found.watched(), found.marks()), ({}, []))
                        self.assertEqual(journal_text(found), text)
                live.undo()
                self.assertEqual(led_live(journal_text(live)).book, live.book)
                self.assertEqual(len(journal_text(live).split("\n")), 5)

    def test_by_hand(self):
        live = LiveBook(("group", 3, [[0, 1], [1, 0]]))
        self.assertEqual(journal_text(live), "live group 3 0 1 / 1 0")
        live.do(("other",))
        live.do(("basis", [[1, 3], [-1, 4]]))
        live.do(("beside", ("group", 3, [[0]])))
        live.do(("double",))
        self.assertEqual(journal_text(live), JOURNAL)
        self.assertEqual(led_live(JOURNAL).book, live.book)
        live = LiveBook(("shift", 5, 2, -1))
        self.assertEqual(journal_text(live), "live shift 5 2 4")

    def test_no_live_books(self):
        for value in samples.STRANGE + [group_book(3, [[0]]), ("slip", 2), [LiveBook(("slip", 2))], JOURNAL]:
            self.refused(BadLive, None, journal_text, value)
        for value in samples.STRANGE + [JOURNAL.encode(), JOURNAL.split("\n"), LiveBook(("slip", 2)), 1]:
            if type(value) is not str:
                self.refused(BadText, 0, led_live, value)

    def test_first_lines(self):
        for line in ("", "live", "live ", "live  slip 2", " live slip 2", "Live slip 2", "slip 2", "live slip 2 ", "live slip 02",
                     "live slip 5", "live group 3 1", "live shift 5 4 7", "live other", "live live slip 2", "other", "live brackets 2 1 0"):
            self.refused(BadText, 0, led_live, line)
            self.refused(BadText, 0, led_live, line + "\nother")
        self.assertEqual(led_live("live slip 2\nother").standing, 1)

    def test_each_line(self):
        lines = JOURNAL.split("\n")
        for at in range(1, len(lines) + 1):
            for wrong in ("", " ", "x", "undo", "redo", "Other", "other ", "basis 1 0 / 0 3", "basis 1 0 / 2 4", "basis 0 0 / 0 0",
                          "basis 1", "twist 0 0 / 0 0", "twist 3", "beside slip 2", "beside group 3 0 1 / 1 1", "beside shift 3 2 5",
                          "beside group 5 0", "live slip 2", "mark a", "size", "other\r", "basis 97", "basis -1"):
                for rest in (lines[at:], []):
                    self.refused(BadText, at, led_live, "\n".join(lines[:at] + [wrong] + rest))
            self.assertEqual(led_live("\n".join(lines[:at])).standing, at - 1)
        # Two wrong lines: the first one.
        self.refused(BadText, 1, led_live, "live slip 2\nx\nx")
        # What cannot be done, though it is the line of a deed.
        self.refused(BadText, 2, led_live, "live slip 2\ndouble\ndouble")
        self.refused(BadText, 1, led_live, "live slip 3\ndouble\nx")
        self.refused(BadText, 3, led_live, "live group 2 0 1 / 1 0\ndouble\ndouble\nbeside slip 2")
        self.refused(BadText, len(lines), led_live, JOURNAL + "\n")

    def test_numbers_below_the_prime(self):
        for prime, line, right in ((3, "basis 1 0 / 0 2", True), (3, "basis 1 0 / 0 4", False), (5, "basis 1 0 / 0 4", True),
                                   (97, "basis 1 0 / 0 96", True), (5, "basis 1 0 / 5 1", False)):
            text = f"live group {prime} 0 1 / 1 0\n{line}"
            if right:
                self.assertEqual(journal_text(led_live(text)), text)
            else:
                self.refused(BadText, 1, led_live, text)


if __name__ == "__main__":
    unittest.main()
