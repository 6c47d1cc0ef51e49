"""Point 133: splitbooks as texts."""

import unittest

from splitbooks.bases import other_way
from splitbooks.books import Splitbook
from splitbooks.errors import BadText
from splitbooks.families import group_book
from splitbooks.texts import book_of_text, book_text
from tests import samples
from tests.helping import Case
from tests.roomsamples import some_books

TWO = "splitbook 3 2\none 1 0\ncounts 1 1\njoins 1 0 / 0 1\njoins 0 1 / 1 0\nsplits 1 0 / 0 0\nsplits 0 0 / 0 1"


def text_plainly(book):
    lines = [f"splitbook {book.prime} {book.size}", "one " + " ".join(map(str, book.one)),
             "counts " + " ".join(map(str, book.counts))]
    for word, cube in (("joins", book.joins), ("splits", book.splits)):
        for square in cube:
            lines.append(word + " " + " / ".join(" ".join(map(str, row)) for row in square))
    return "\n".join(lines)


class TextsTest(Case):

    def test_there_and_back(self):
        for name, book in {**samples.books(), **samples.large_books()}.items():
            with self.subTest(name=name):
                text = book_text(book)
                self.assertIs(type(text), str)
                self.assertEqual(text, text_plainly(book))
                found = book_of_text(text)
                self.assertIs(type(found), Splitbook)
                self.assertEqual(found, book)
                self.assertEqual(found.back, book.back)

    def test_by_hand(self):
        self.assertEqual(book_text(group_book(3, samples.cyclic(2))), TWO)
        self.assertEqual(book_text(group_book(97, [[0]])), "splitbook 97 1\none 1\ncounts 1\njoins 1\nsplits 1")

    def test_no_strings(self):
        for value in samples.STRANGE + [TWO.encode(), [TWO], TWO.split("\n"), {TWO: 1}, group_book(3, samples.cyclic(2))]:
            self.refused(BadText, 0, book_of_text, value)
        self.wants_books(book_text, 1)

    def test_first_lines(self):
        rest = TWO.split("\n")[1:]
        for line in ("", "splitbook", "splitbook 3", "splitbook 3 2 ", " splitbook 3 2", "splitbook  3 2", "splitbook 3 2 1",
                     "Splitbook 3 2", "splitbook 4 2", "splitbook 1 2", "splitbook 101 2", "splitbook 03 2", "splitbook 3 02",
                     "splitbook 3 0", "splitbook 3 17", "splitbook 3 -2", "splitbook +3 2", "splitbook 3 2.0", "splitbook 3 x",
                     "splitbook 3 \u0662", "splitbook 3 2\r", "splitbook\t3 2", "splitbook 3/2", "splitbook 3 / 2",
                     "splitbook 3 \u00b2", "splitbook 3 1_6", "splitbook " + "9" * 5000 + " 2", "splitbook 3 " + "9" * 5000):
            self.refused(BadText, 0, book_of_text, "\n".join([line] + rest))
            self.refused(BadText, 0, book_of_text, line)
        for prime in (0, 1, 4, 6, 9, 98, 99, 100):
            self.refused(BadText, 0, book_of_text, "\n".join([f"splitbook {prime} 2"] + rest))

    def test_each_line(self):
        """Each line missing, empty, twice, exchanged; each word wrong, missing, one too many."""
        for book in (group_book(3, samples.cyclic(2)), other_way(group_book(5, samples.SIX)), some_books()["slip 2, joins turned"]):
            lines = book_text(book).split("\n")
            for at in range(1, len(lines)):
                self.refused(BadText, at, book_of_text, "\n".join(lines[:at]))
                self.refused(BadText, at, book_of_text, "\n".join(lines[:at] + [""] + lines[at:]))
                self.refused(BadText, at, book_of_text, "\n".join(lines[:at] + [" " + lines[at]] + lines[at + 1:]))
                self.refused(BadText, at, book_of_text, "\n".join(lines[:at] + [lines[at] + " "] + lines[at + 1:]))
                self.refused(BadText, at, book_of_text, "\n".join(lines[:at] + ["x"] + lines[at + 1:] + ["more"]))
                words = lines[at].split(" ")
                for place in range(len(words)):
                    for wrong in ("", "x", str(book.prime), "97", "-1", "01", "+1", "/", "//", "1/1", "1.0", "\u0661", "\u00b2",
                                  "9" * 5000, words[place] + " 1", words[place] + " /", "joins", words[place].upper() + "x"):
                        if wrong == words[place]:
                            continue
                        new = " ".join(words[:place] + [wrong] + words[place + 1:])
                        self.refused(BadText, at, book_of_text, "\n".join(lines[:at] + [new] + lines[at + 1:]))
                    new = " ".join(words[:place] + words[place + 1:])
                    self.refused(BadText, at, book_of_text, "\n".join(lines[:at] + [new] + lines[at + 1:]))
            many = len(lines)
            for more in ("", "x", lines[-1], "counts 1 1"):
                self.refused(BadText, many, book_of_text, "\n".join(lines + [more]))
                self.refused(BadText, many, book_of_text, "\n".join(lines + [more, more]))
            self.refused(BadText, 2, book_of_text, "\n".join(lines[:2] + [lines[3], lines[2]] + lines[4:]))
            # The first wrong line is told.
            self.refused(BadText, 3, book_of_text, "\n".join(lines[:3] + ["x"] + lines[4:-1] + ["x"]))

    def test_no_splitbooks(self):
        """Lines that are right of tables that are wrong: the number of lines."""
        for book in (group_book(3, samples.cyclic(2)), some_books()["shift 2 over 3"]):
            lines = book_text(book).split("\n")
            for at in range(1, len(lines)):
                word, rest = lines[at].split(" ", 1)
                for place, sign in enumerate(rest):
                    if sign in "012":
                        changed = rest[:place] + str((int(sign) + 1) % 3) + rest[place + 1:]
                        text = "\n".join(lines[:at] + [word + " " + changed] + lines[at + 1:])
                        self.refused(BadText, len(lines), book_of_text, text)


if __name__ == "__main__":
    unittest.main()
