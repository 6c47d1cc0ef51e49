"""Leadings between splitbooks, and likenesses: those that a map undoes."""

from splitbooks.checks import need_few, need_two_books
from splitbooks.linear import across, combined, cube_led, inverse, led_all, plain
from splitbooks.powers import number_undone
from splitbooks.stairs import Stairs
from splitbooks.tables import row_counted, rows_joined
from splitbooks.values import is_map, rows_of

MOST_MAPS = 20000


def is_leading(one, other, thing):
    """Whether thing, any value, is a leading from one to other."""
    need_two_books(one, other)
    if not is_map(thing, one.size, other.size):
        return False
    prime = one.prime
    rows = rows_of(thing, prime)
    if combined(one.one, rows, prime) != other.one:
        return False
    if tuple([row_counted(prime, other.counts, row) for row in rows]) != one.counts:
        return False
    if cube_led(one.joins, None, None, rows, prime) != cube_led(other.joins, rows, rows, None, prime):
        return False
    return cube_led(one.splits, None, across(rows), rows, prime) == cube_led(other.splits, rows, None, None, prime)


def rows_of_count(book, count):
    """The ascending list of all things of book that have this count."""
    prime = book.prime
    rows = [()]
    for _ in range(book.size - 1):
        rows = [row + (number,) for row in rows for number in range(prime)]
    # The number at the last place that is counted is told by the others.
    place = max([at for at, number in enumerate(book.counts) if number])
    undone = number_undone(book.counts[place], prime)
    found = []
    for row in rows:
        row = row[:place] + (0,) + row[place:]
        number = (count - row_counted(prime, book.counts, row)) * undone % prime
        found.append(row[:place] + (number,) + row[place + 1:])
    return sorted(found)


class Words:
    """A basis of a splitbook: one, the first things that are not told by it and those ahead, and joined ones of these.

    A stage is told by the place of such a thing, the pairs of what is joined to make more, as far as that is
    new, and (i, j, numbers) for all other pairs: the sum of the numbers times the basis is what i is joined to j.
    """

    def __init__(self, book):
        self.book = book
        self.basis = [book.one]
        self.stairs = Stairs(book.prime, book.size)
        self.stairs.taken(book.one)
        self.stages = []
        for place, thing in enumerate(plain(book.size)):
            if self.stairs.taken(thing) is not None:
                self.basis.append(thing)
                self.stages.append(self.stage(place))
        self.undone = inverse(self.basis, book.prime)
        self.stages = [self.with_numbers(stage) for stage in self.stages]

    def stage(self, place):
        """The stage of the thing last taken, with the pair of its sides where the numbers belong."""
        pairs = []
        others = []
        at = len(self.basis) - 1
        while at < len(self.basis):
            for i, j in [(at, k) for k in range(1, at + 1)] + [(k, at) for k in range(1, at)]:
                row = rows_joined(self.book.prime, self.book.joins, self.basis[i], self.basis[j])
                if self.stairs.taken(row) is None:
                    others.append((i, j, row))
                else:
                    pairs.append((i, j))
                    self.basis.append(row)
            at = at + 1
        return (place, pairs, others)

    def with_numbers(self, stage):
        """The stage with numbers of the basis for the rows of its other pairs."""
        place, pairs, others = stage
        return (place, pairs, [(i, j, combined(row, self.undone, self.book.prime)) for i, j, row in others])


class LeadingSearch:
    """The search for leadings: the words of one are led, in their sequence, to the least that may do."""

    def __init__(self, one, other):
        self.one = one
        self.other = other
        self.words = Words(one)
        self.choices = [rows_of_count(other, one.counts[place]) for place, _, _ in self.words.stages]

    def led_on(self, images, at):
        """What the words are led to, with those of the stage at; None if joined ones are not led to joined ones."""
        prime = self.one.prime
        _, pairs, others = self.words.stages[at]
        for i, j in pairs:
            images = images + [rows_joined(prime, self.other.joins, images[i], images[j])]
        for i, j, numbers in others:
            if rows_joined(prime, self.other.joins, images[i], images[j]) != combined(numbers, images, prime):
                return None
        return images

    def least(self, images, at):
        """The least likeness that leads the first words to images, the stages ahead of at being done; or None."""
        if at == len(self.choices):
            rows = led_all(self.words.undone, images, self.one.prime)
            if inverse(rows, self.one.prime) is None or not is_leading(self.one, self.other, rows):
                return None
            return rows
        for row in self.choices[at]:
            more = self.led_on(images + [row], at)
            if more is not None:
                found = self.least(more, at + 1)
                if found is not None:
                    return found
        return None

    def every(self, images, at):
        """The ascending list of the leadings that lead the first words to images, the stages ahead of at being done."""
        if at == len(self.choices):
            rows = led_all(self.words.undone, images, self.one.prime)
            return [rows] if is_leading(self.one, self.other, rows) else []
        found = []
        for row in self.choices[at]:
            more = self.led_on(images + [row], at)
            if more is not None:
                found.extend(self.every(more, at + 1))
        return found


def leadings_between(one, other):
    """The ascending list of all leadings from one to other, of the same prime."""
    return LeadingSearch(one, other).every([other.one], 0)


def likeness(one, other):
    """The least leading from one to other that a map undoes; None if there is none."""
    need_two_books(one, other)
    if one.size != other.size:
        return None
    need_few(one.prime, (one.size - 1) ** 2, MOST_MAPS)
    return LeadingSearch(one, other).least([other.one], 0)


def are_alike(one, other):
    """Whether there is a likeness from one to other."""
    return likeness(one, other) is not None
