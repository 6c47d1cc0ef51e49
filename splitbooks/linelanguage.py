"""Numbers, rows and squares as words of lines, and words as these."""

from splitbooks.values import is_prime

DIGITS = "0123456789"
MOST_DIGITS = 2
LARGEST = 96


def row_text(row):
    """The numbers of a row with one space between."""
    return " ".join([str(number) for number in row])


def rows_text(rows):
    """The rows with " / " between."""
    return " / ".join([row_text(row) for row in rows])


def number_read(word, most):
    """The number from 0 to most, at most 99, that a word is, written without zeros ahead; None if it is none."""
    if not 1 <= len(word) <= MOST_DIGITS or not all([sign in DIGITS for sign in word]):
        return None
    number = int(word)
    return number if str(number) == word and number <= most else None


def numbers_read(words, most):
    """The numbers from 0 to most that words are; None if some word is none."""
    numbers = tuple([number_read(word, most) for word in words])
    return None if None in numbers else numbers


def prime_read(word):
    """The prime that a word is; None if it is none."""
    number = number_read(word, LARGEST + 1)
    return number if is_prime(number) else None


def rows_read(text, most):
    """The rows, of one size, of numbers from 0 to most that a text tells; None if it does not."""
    rows = tuple([numbers_read(part.split(" "), most) for part in text.split(" / ")])
    if None in rows or not all([len(row) == len(rows[0]) for row in rows]):
        return None
    return rows
