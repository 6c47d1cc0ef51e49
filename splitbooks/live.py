"""A live splitbook: deeds that are done, taken back and done again; what is watched; marks."""

from splitbooks.deeds import book_done, deed_kept, is_beside, is_deed_of_rows, led_along, started_for
from splitbooks.errors import BadDeed, BadName, BadRow, NothingLeft, NoMark, NoWatch, SplitError
from splitbooks.fourths import back_order
from splitbooks.linear import across, plain
from splitbooks.simples import falls_apart
from splitbooks.starts import book_of_start, start_kept
from splitbooks.swallowed import multiplied_by
from splitbooks.tables import row_counted, turned_cube
from splitbooks.values import is_row, row_of

MOST_LETTERS = 8
LETTERS = "abcdefghijklmnopqrstuvwxyz"


def started(start):
    """The splitbook of a start."""
    return book_of_start(start)


def is_deed(thing):
    """Whether thing, any value, is a deed."""
    if is_beside(thing):
        try:
            started(thing[1])
        except SplitError:
            return False
        return True
    return is_deed_of_rows(thing)


def is_name(value):
    """Whether value is a string of 1 to 8 letters from a to z."""
    return isinstance(value, str) and 1 <= len(value) <= MOST_LETTERS and all([sign in LETTERS for sign in value])


def need_name(name):
    """BadName unless a name is given."""
    if not is_name(name):
        raise BadName("a string of 1 to 8 letters from a to z is wanted")


def _rows_fall_apart(book):
    """Whether the other way of book falls apart."""
    row = multiplied_by(book.prime, turned_cube(book.splits), book.one)[0]
    return row_counted(book.prime, row, book.one) != 0


class LiveBook:
    """A splitbook that deeds change, with what is watched along them."""

    def __init__(self, start):
        book = started(start)
        self.prime = book.prime
        self.start = start_kept(start)
        self.book = book
        self.standing = 0
        self._done = []
        # The splitbook and what was watched just ahead of each deed done; and the deeds taken back, the last one last.
        self._before = []
        self._taken_back = []
        self._watched = {}
        self._marks = {}

    def _put(self, deed):
        """Does a deed, as it is kept; nothing is changed if it cannot be done."""
        more = started_for(deed)
        book = book_done(self.book, deed, more)
        watched = {}
        for name, (kind, row) in self._watched.items():
            new_kind, rows = led_along(self.book, deed, more, kind, [row])
            watched[name] = (new_kind, rows[0])
        self._before.append((self.book, self._watched))
        self._done.append(deed)
        self.book = book
        self._watched = watched
        self.standing = len(self._done)

    def do(self, deed):
        """Does a deed; what was taken back can no longer be done again."""
        if not is_deed(deed):
            raise BadDeed("a deed is wanted")
        self._put(deed_kept(deed, self.prime))
        self._taken_back = []

    def deeds(self):
        """The list of the deeds done."""
        return list(self._done)

    def undo(self):
        """Takes the last deed done back."""
        if not self._done:
            raise NothingLeft("no deed is left to take back")
        self._taken_back.append(self._done.pop())
        self.book, self._watched = self._before.pop()
        self.standing = len(self._done)

    def redo(self):
        """Does the deed last taken back again."""
        if not self._taken_back:
            raise NothingLeft("no deed is left to do again")
        self._put(self._taken_back[-1])
        self._taken_back.pop()

    def _watch(self, name, kind, row):
        """Watches a thing or a row; what was watched ahead of earlier deeds stays as it was."""
        need_name(name)
        if not is_row(row, self.book.size):
            raise BadRow("a row of the present size is wanted")
        watched = dict(self._watched)
        watched[name] = (kind, row_of(row, self.prime))
        self._watched = watched

    def watch_thing(self, name, row):
        """Watches a thing of the present splitbook under a name."""
        self._watch(name, "thing", row)

    def watch_row(self, name, row):
        """Watches a row that tells of things of the present splitbook under a name."""
        self._watch(name, "row", row)

    def unwatch(self, name):
        """Lets go what is watched under a name."""
        if not is_name(name) or name not in self._watched:
            raise NoWatch(name)
        self._watched = {other: told for other, told in self._watched.items() if other != name}

    def watched(self):
        """The ascending dict from watched names to their kinds and rows."""
        return {name: self._watched[name] for name in sorted(self._watched)}

    def values_told(self):
        """The ascending dict from pairs of names, of a thing and of a row, to what the row tells of the thing."""
        names = sorted(self._watched)
        found = {}
        for at, one in enumerate(names):
            for other in names[at + 1:]:
                first, second = self._watched[one], self._watched[other]
                if first[0] != second[0]:
                    found[(one, other)] = row_counted(self.prime, first[1], second[1])
        return found

    def told(self):
        """What is told of the present splitbook, by words."""
        book = self.book
        return {
            "joins": book.joins == across(book.joins),
            "parts": falls_apart(book),
            "rows part": _rows_fall_apart(book),
            "size": book.size,
            "splits": all([square == across(square) for square in book.splits]),
            "turns": back_order(book)}

    def mark(self, name):
        """Keeps the present splitbook, and the deeds done, under a name."""
        need_name(name)
        self._marks[name] = (self.book, list(self._done))

    def marks(self):
        """The ascending list of the names of marks."""
        return sorted(self._marks)

    def _mark_of(self, name):
        """What is kept under a name."""
        if not is_name(name) or name not in self._marks:
            raise NoMark(name)
        return self._marks[name]

    def marked(self, name):
        """The splitbook that is kept under a name."""
        book, _ = self._mark_of(name)
        return book

    def carried(self, name):
        """What things of a marked splitbook are by now, as a kind and a map; None if other deeds were done since."""
        book, deeds = self._mark_of(name)
        many = len(deeds)
        if self._done[:many] != deeds:
            return None
        kind = "thing"
        rows = plain(book.size)
        for at in range(many, len(self._done)):
            deed = self._done[at]
            kind, rows = led_along(self._before[at][0], deed, started_for(deed), kind, rows)
        return (kind, rows)
