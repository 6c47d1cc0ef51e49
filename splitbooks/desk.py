"""A desk: a live splitbook that is told what to do line by line, and answers in words."""

from splitbooks.deedtexts import deed_read
from splitbooks.errors import SplitError
from splitbooks.journals import journal_text
from splitbooks.linelanguage import numbers_read, rows_text
from splitbooks.live import LiveBook, is_name
from splitbooks.texts import book_text

UNKNOWN = "?"
DONE = "done"
REFUSED = "refused"


class Desk:
    """A live splitbook, and what is said to it."""

    def __init__(self, start):
        self.live = LiveBook(start)

    def say(self, line):
        """The answer to a line, any value."""
        if not isinstance(line, str):
            return UNKNOWN
        deed = deed_read(line)
        if deed is not None:
            return self._do(deed)
        if line in ("undo", "redo"):
            return self._go(line)
        words = line.split(" ")
        if len(words) == 1:
            return self._tell(line)
        if not is_name(words[1]):
            return UNKNOWN
        if words[0] in ("thing", "row"):
            return self._watch(words[0], words[1], words[2:])
        if words[0] == "value":
            return self._value(words[1:])
        return self._name(words[0], words[1]) if len(words) == 2 else UNKNOWN

    def _do(self, deed):
        """Does a deed."""
        try:
            self.live.do(deed)
        except SplitError:
            return REFUSED
        return DONE

    def _go(self, word):
        """Takes a deed back, or does it again."""
        try:
            if word == "undo":
                self.live.undo()
            else:
                self.live.redo()
        except SplitError:
            return REFUSED
        return DONE

    def _tell(self, word):
        """What a word alone asks for."""
        if word in ("size", "turns"):
            return str(self.live.told()[word])
        if word == "parts":
            return "yes" if self.live.told()[word] else "no"
        if word == "book":
            return book_text(self.live.book)
        return journal_text(self.live) if word == "journal" else UNKNOWN

    def _watch(self, word, name, words):
        """Watches a thing or a row of numbers from 0 to prime - 1."""
        numbers = numbers_read(words, self.live.prime - 1)
        if not numbers:
            return UNKNOWN
        try:
            if word == "thing":
                self.live.watch_thing(name, numbers)
            else:
                self.live.watch_row(name, numbers)
        except SplitError:
            return REFUSED
        return DONE

    def _value(self, names):
        """What the row of one of two names tells of the thing of the other."""
        if len(names) != 2 or not is_name(names[1]):
            return UNKNOWN
        told = self.live.values_told()
        first, second = sorted(names)
        return str(told[(first, second)]) if (first, second) in told else REFUSED

    def _name(self, word, name):
        """What a word and a name ask for."""
        if word == "mark":
            self.live.mark(name)
            return DONE
        if word not in ("drop", "since"):
            return UNKNOWN
        try:
            if word == "drop":
                self.live.unwatch(name)
                return DONE
            carried = self.live.carried(name)
        except SplitError:
            return REFUSED
        if carried is None:
            return "no"
        kind, rows = carried
        return kind + " " + rows_text(rows)
