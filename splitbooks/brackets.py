"""The family of splitbooks that brackets and powers make."""

from splitbooks.errors import BadBrackets
from splitbooks.grown import grown_book, pair_square, sum_of_squares
from splitbooks.linear import across, combined, led_all, plain, unit
from splitbooks.powers import is_power_above
from splitbooks.tables import all_joined
from splitbooks.values import cube_of, is_cube, is_listing, is_square, need_prime, rows_of

MOST_WORDS = 16


def _is_cube_of_few(prime, brackets):
    """Whether brackets is a cube of a size from 1 on of which there are not too many words."""
    if not is_listing(brackets) or not brackets or is_power_above(prime, len(brackets), MOST_WORDS):
        return False
    return is_cube(brackets, len(brackets))


def _is_alternating(prime, brackets):
    """Whether the bracket of each row with itself is 0."""
    places = range(len(brackets))
    for i in places:
        if any(brackets[i][i]):
            return False
        for j in places:
            # The bracket of the sum of things i and j with itself.
            if any(combined([1, 1], [brackets[i][j], brackets[j][i]], prime)):
                return False
    return True


def _goes_round(prime, brackets):
    """Whether brackets within brackets, taken round in three ways, have the sum 0."""
    places = range(len(brackets))
    for i in places:
        for j in places:
            for k in places:
                rounds = ((i, j, k), (j, k, i), (k, i, j))
                rows = [combined(brackets[second][third], brackets[first], prime) for first, second, third in rounds]
                if any(combined([1, 1, 1], rows, prime)):
                    return False
    return True


def _have_powers(prime, brackets, powers):
    """Whether prime times bracketing with thing i is bracketing with powers[i], for each i."""
    things = plain(len(brackets))
    for leader, row in zip(brackets, powers):
        rows = things
        for _ in range(prime):
            rows = led_all(rows, leader, prime)
        if rows != all_joined(prime, brackets, [row], things)[0]:
            return False
    return True


def _words(prime, letters):
    """The ascending words with each letter less than prime times, those with more of the first letters ahead."""
    words = [()]
    for letter in range(letters):
        words = [word + (letter,) * many for many in range(prime) for word in words]
    return words


class WordSorter:
    """Turns a letter joined to an ascending word into a sum of multiples of ascending words."""

    def __init__(self, prime, brackets, powers, words):
        self.prime = prime
        self.brackets = brackets
        self.powers = powers
        self.words = words
        self.place_of = {word: place for place, word in enumerate(words)}
        self.known = {}

    def led(self, letter, word):
        """The row of letter joined to word; each one is worked out once."""
        if (letter, word) not in self.known:
            self.known[(letter, word)] = self.worked_out(letter, word)
        return self.known[(letter, word)]

    def worked_out(self, letter, word):
        """The same, by rows of shorter words, and of words as long that need no turning."""
        longer = (letter,) + word
        if longer in self.place_of:
            return unit(len(self.words), self.place_of[longer])
        if letter == word[0]:
            rest = word[self.prime - 1:]
            return self.total([(number, other, rest) for other, number in enumerate(self.powers[letter])])
        first, rest = word[0], word[1:]
        past = [(number, first, other) for number, other in zip(self.led(letter, rest), self.words)]
        left = [(number, other, rest) for other, number in enumerate(self.brackets[letter][first])]
        return self.total(past + left)

    def total(self, parts):
        """The sum over parts (number, letter, word) of number times the row of letter joined to word."""
        # What comes with the number 0 is not asked for: its word may be too long to be known.
        asked = [(number, self.led(letter, word)) for number, letter, word in parts if number]
        nothing = (1, (0,) * len(self.words))
        numbers, rows = across([nothing] + asked)
        return combined(numbers, rows, self.prime)


def bracket_book(prime, brackets, powers):
    """The splitbook of ascending products of things x0, x1, .. with these brackets and these powers."""
    need_prime(prime)
    if not _is_cube_of_few(prime, brackets):
        raise BadBrackets("size")
    if not is_square(powers, len(brackets)):
        raise BadBrackets("powers")
    brackets = cube_of(brackets, prime)
    powers = rows_of(powers, prime)
    if not _is_alternating(prime, brackets) or not _goes_round(prime, brackets):
        raise BadBrackets("brackets")
    if not _have_powers(prime, brackets, powers):
        raise BadBrackets("powers")
    words = _words(prime, len(brackets))
    sorter = WordSorter(prime, brackets, powers, words)
    letters = range(len(brackets))
    leaders = [[sorter.led(letter, word) for word in words] for letter in letters]
    places = [words.index((letter,)) for letter in letters]
    size = len(words)
    splits = [sum_of_squares(pair_square(size, place, 0), pair_square(size, 0, place)) for place in places]
    return grown_book(prime, words, leaders, splits, [0] * len(places))
