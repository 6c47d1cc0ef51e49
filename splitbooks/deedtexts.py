"""Starts and deeds as lines, and lines as starts and deeds."""

from splitbooks.errors import BadDeed, BadText, SplitError
from splitbooks.linear import flat, folded
from splitbooks.linelanguage import LARGEST, number_read, numbers_read, prime_read, row_text, rows_read, rows_text
from splitbooks.live import is_deed, started
from splitbooks.starts import start_kept
from splitbooks.values import is_number_within

MOST_SIZE = 16
ALONE = ("other", "joins", "splits", "double")
WITH_ROWS = ("basis", "twist")


def _line_of_start(start):
    """The line of a start that is found right."""
    start = start_kept(start)
    word = start[0]
    if word == "group":
        return f"group {start[1]} " + rows_text(start[2])
    if word == "brackets":
        rows = [row for square in start[2] for row in square] + list(start[3])
        return f"brackets {start[1]} {len(start[2])} " + rows_text(rows)
    return word + " " + row_text(start[1:])


def start_text(start):
    """The line of a start."""
    started(start)
    return _line_of_start(start)


def _brackets_read(prime, text):
    """The start of brackets that a size and rows tell; None if they tell none."""
    word, _, rest = text.partition(" ")
    size = number_read(word, MOST_SIZE)
    rows = rows_read(rest, prime - 1)
    if size is None or rows is None or len(rows[0]) != size or len(rows) != size * size + size:
        return None
    many = size * size
    return ("brackets", prime, folded(rows[:many], size), rows[many:])


def _start_like(text):
    """What may be the start with this text; None if no start has it."""
    word, _, rest = text.partition(" ")
    number, _, rest = rest.partition(" ")
    prime = prime_read(number)
    if prime is None:
        return None
    if word == "group":
        rows = rows_read(rest, MOST_SIZE - 1)
        return None if rows is None else ("group", prime, rows)
    if word == "shift":
        numbers = numbers_read(rest.split(" "), LARGEST)
        return None if numbers is None else ("shift", prime) + numbers
    if word == "slip":
        return ("slip", prime)
    return _brackets_read(prime, rest) if word == "brackets" else None


def _start_read(text):
    """The start with this text, a string; None if there is none."""
    start = _start_like(text)
    if start is None:
        return None
    try:
        started(start)
    except SplitError:
        return None
    return start if _line_of_start(start) == text else None


def start_of_text(text):
    """The start with this text; BadText(0) for any value that is none."""
    start = _start_read(text) if isinstance(text, str) else None
    if start is None:
        raise BadText(0)
    return start


def deed_text(deed):
    """The line of a deed with numbers from 0 to 96 in its rows."""
    if not is_deed(deed):
        raise BadDeed("a deed is wanted")
    word = deed[0]
    if word in ALONE:
        return word
    if word == "beside":
        return word + " " + _line_of_start(deed[1])
    if not all([is_number_within(number, 0, LARGEST) for number in flat(deed[1])]):
        raise BadDeed("a deed with numbers from 0 to 96 is wanted")
    return word + " " + rows_text(deed[1])


def deed_read(text):
    """The deed with this text; None for any value that is none."""
    if not isinstance(text, str):
        return None
    if text in ALONE:
        return (text,)
    word, _, rest = text.partition(" ")
    if word == "beside":
        start = _start_read(rest)
        return None if start is None else (word, start)
    rows = rows_read(rest, LARGEST) if word in WITH_ROWS else None
    if rows is None or len(rows) != len(rows[0]) or len(rows) > MOST_SIZE:
        return None
    return (word, rows)


def deed_of_text(text):
    """The deed with this text; BadText(0) for any value that is none."""
    deed = deed_read(text)
    if deed is None:
        raise BadText(0)
    return deed
