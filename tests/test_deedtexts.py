"""Point 133: starts and deeds as texts."""

import unittest

from splitbooks.deedtexts import deed_of_text, deed_text, start_of_text, start_text
from splitbooks.errors import (
    BadBrackets, BadDeed, BadGroup, BadNumber, BadPrime, BadStart, BadText)
from tests import samples
from tests.helping import Case
from tests.livesamples import NO_DEEDS, NO_STARTS, STARTS, kept

TEXTS = {
    "group 3 0 1 / 1 0": ("group", 3, ((0, 1), (1, 0))),
    "shift 5 4 2": ("shift", 5, 4, 2),
    "slip 2": ("slip", 2),
    "slip 3": ("slip", 3),
    "brackets 2 1 0 / 1": ("brackets", 2, (((0,),),), ((1,),)),
    "group 97 0": ("group", 97, ((0,),)),
    "shift 97 2 96": ("shift", 97, 2, 96),
    "brackets 3 2 0 0 / 0 1 / 0 2 / 0 0 / 1 0 / 0 0": (
        "brackets", 3, (((0, 0), (0, 1)), ((0, 2), (0, 0))), ((1, 0), (0, 0))),
}

NO_TEXTS = [
    "", " ", "slip", "slip ", "slip 2 ", " slip 2", "slip  2", "slip 02", "slip 5", "slip 4", "slip 2 2", "Slip 2", "slip 2\n",
    "slip x", "slip +2", "slip \u0662", "slip 2\r", "group", "group 3", "group 3 ", "group 3 1", "group 3 0 1", "group 3 0 1 / 1 1",
    "group 3 0 1 /1 0", "group 3 0 1/ 1 0", "group 3 0 1  / 1 0", "group 3 0 1 / 1 0 /", "group 3 0 1 / 1 0 / ", "group 3 0 1 / 1 00",
    "group 4 0", "group 03 0", "group 3 0 1 / 1", "group 3 0 -1 / 1 0", "group 3 / 0", "group 3 16", "shift", "shift 5", "shift 5 4",
    "shift 5 4 7", "shift 5 4 2 1", "shift 5 4 / 2", "shift 5 5 2", "shift 5 4 4", "shift 5 04 2", "shift 5 4 -3", "shift 101 2 100",
    "shift 4 2 3", "brackets", "brackets 2", "brackets 2 1", "brackets 2 1 0", "brackets 2 1 0 / 2", "brackets 2 1 0 / 1 / 0",
    "brackets 2 0 ", "brackets 2 0", "brackets 2 1 1 / 0", "brackets 2 01 0 / 1", "brackets 5 2 0 0 / 0 0 / 0 0 / 0 0 / 0 0 / 0 0",
    "brackets 2 2 0 / 1", "brackets 2 1 0 0 / 1", "brackets 2 1 / 0 / 1", "live slip 2", "splitbook 2 1", "other",
    "brackets 2 1 0 / " + "1" * 5000, "group 2 " + "0" * 5000, "slip " + "2" * 5000, "shift 5 4 " + "2" * 5000]


class StartTextsTest(Case):

    def test_texts(self):
        for text, start in TEXTS.items():
            self.assertEqual(start_text(start), text)
            found = start_of_text(text)
            self.assertEqual(found, start)
            self.is_alike(found, start)

    def is_alike(self, one, other):
        """Alike also by their kinds."""
        self.assertIs(type(one), type(other))
        if type(one) is tuple:
            for part, more in zip(one, other):
                self.is_alike(part, more)

    def test_starts(self):
        for name, start in STARTS.items():
            text = self.unchanged(start_text, start)
            self.assertIs(type(text), str)
            self.assertEqual(start_of_text(text), kept(start))
            self.is_alike(start_of_text(text), kept(start))
            self.assertEqual(start_text(kept(start)), text)
        self.assertEqual(start_text(("shift", 5, 4, 7)), "shift 5 4 2")
        self.assertEqual(start_text(("brackets", 2, [[[2]]], [[-1]])), "brackets 2 1 0 / 1")
        self.assertEqual(start_text(("group", 2, samples.cyclic(16)))[:20], "group 2 0 1 2 3 4 5 ")

    def test_wrong_starts(self):
        for value in NO_STARTS:
            self.refused(BadStart, None, start_text, value)
        for error, part, start in (
                (BadPrime, None, ("group", 4, None)), (BadGroup, None, ("group", 3, [[1]])), (BadNumber, "order", ("shift", 3, 5, 2)),
                (BadNumber, "prime", ("slip", 5)), (BadBrackets, "size", ("brackets", 2, None, None))):
            self.refused(error, part, start_text, start)

    def test_wrong_texts(self):
        for value in samples.STRANGE + [b"slip 2", ["slip 2"], ("slip", 2)] + NO_TEXTS:
            self.refused(BadText, 0, start_of_text, value)

    def test_each_word(self):
        for text in TEXTS:
            words = text.split(" ")
            for at in range(len(words)):
                for wrong in ("", "x", "-1", "01", "97", "/", "98", "+1", "1.0", "\u0661", words[at] + "\n", "\t" + words[at]):
                    if wrong != words[at] and not (at == 1 and wrong == "97" and words[0] == "group"):
                        self.refused(BadText, 0, start_of_text, " ".join(words[:at] + [wrong] + words[at + 1:]))
                shorter = " ".join(words[:at] + words[at + 1:])
                if shorter not in TEXTS:
                    self.refused(BadText, 0, start_of_text, shorter)
            for more in (" ", "\n", " 1", " /", " / 0", "\r"):
                self.refused(BadText, 0, start_of_text, text + more)


class DeedTextsTest(Case):

    def test_texts(self):
        rows = {"other": ("other",), "joins": ("joins",), "splits": ("splits",), "double": ("double",),
                "basis 1 0 / 2 1": ("basis", ((1, 0), (2, 1))), "basis 96": ("basis", ((96,),)), "twist 0": ("twist", ((0,),)),
                "twist 1 2 3 / 4 5 6 / 7 8 9": ("twist", ((1, 2, 3), (4, 5, 6), (7, 8, 9))),
                "basis " + " / ".join(["1" + " 0" * 15] * 16): ("basis", ((1,) + (0,) * 15,) * 16)}
        for text, start in TEXTS.items():
            rows["beside " + text] = ("beside", start)
        for text, deed in rows.items():
            self.assertEqual(self.unchanged(deed_text, deed), text)
            found = deed_of_text(text)
            self.assertEqual(found, deed)
            StartTextsTest.is_alike(self, found, deed)
            listed = tuple([list(map(list, deed[1]))] if deed[0] in ("basis", "twist") else deed[1:])
            if deed[0] in ("basis", "twist"):
                self.assertEqual(deed_text((deed[0], listed[0])), text)

    is_alike = StartTextsTest.is_alike

    def test_starts_in_deeds(self):
        for start in STARTS.values():
            text = self.unchanged(deed_text, ("beside", start))
            self.assertEqual(text, "beside " + start_text(start))
            self.assertEqual(deed_of_text(text), ("beside", kept(start)))

    def test_wrong_deeds(self):
        for value in NO_DEEDS + [("basis", [[97]]), ("basis", [[-1]]), ("twist", [[1, 0], [0, 97]]), ("twist", [[2 ** 70]]),
                                 ("twist", [[0, -1], [0, 0]])]:
            self.refused(BadDeed, None, deed_text, value)

    def test_wrong_texts(self):
        for value in samples.STRANGE + [b"other", ["other"], ("other",)]:
            self.refused(BadText, 0, deed_of_text, value)
        for text in ["", " ", "other ", " other", "Other", "others", "other\n", "other 1", "double 2", "undo", "redo", "basis", "basis ",
                     "basis 1 0", "basis 1 0 / 0", "basis 1 / 0", "basis 1 0 / 0 97", "basis 1 0 / 0 -1", "basis 1 0 / 0 01", "basis x",
                     "basis 1  0 / 0 1", "basis 1 0/0 1", "basis 1 0 / 0 1 ", "basis 1 0 / 0 1 /", "basis 1 0 / 0 1\n", "basis  1",
                     "twist", "twist / ", "twist 1 0 / 0 1 / 1 1", "Twist 1", "twist 1.0", "twist \u0661", "twist " + "1" * 5000,
                     "basis " + " / ".join(["1" + " 0" * 16] * 17), "beside", "beside ", "beside other", "beside beside slip 2",
                     "slip 2", "live slip 2", "beside slip 2 ", "beside  slip 2", "basis 98", "basis 100"]:
            self.refused(BadText, 0, deed_of_text, text)
        for text in NO_TEXTS:
            self.refused(BadText, 0, deed_of_text, "beside " + text)


if __name__ == "__main__":
    unittest.main()
