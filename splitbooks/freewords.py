"""Free words, what braids make of them, and orders by which unlike braids are parted."""

from splitbooks.braids import is_order_list, need_steps, need_strands, orders_led
from splitbooks.errors import TooMany

MOST_NUMBERS = 20000


def _words_joined(one, other):
    """Two free words, one behind the other, without numbers beside their negatives."""
    shared = 0
    most = min(len(one), len(other))
    while shared < most and one[len(one) - 1 - shared] == -other[shared]:
        shared = shared + 1
    return one[:len(one) - shared] + other[shared:]


def _word_undone(word):
    """What undoes a free word."""
    return tuple([-number for number in reversed(word)])


def _words_made(strands, braid):
    """The words that a braid makes; TooMany(20000) if these have, behind some step, more numbers together."""
    row = [(number,) for number in range(1, strands + 1)]
    for step in braid:
        k = abs(step)
        x, y = row[k - 1], row[k]
        if step > 0:
            row[k - 1], row[k] = y, _words_joined(_words_joined(y, x), _word_undone(y))
        else:
            row[k - 1], row[k] = _words_joined(_words_joined(_word_undone(x), y), x), x
        if sum([len(word) for word in row]) > MOST_NUMBERS:
            raise TooMany(MOST_NUMBERS)
    return tuple(row)


def words_led(strands, braid):
    """The tuple that a braid makes of the words (1,), (2,), .., one for each strand."""
    need_strands(strands)
    need_steps(strands, braid)
    return _words_made(strands, braid)


def _words_of_both(strands, one, other):
    """The words that each of two braids makes."""
    need_strands(strands)
    need_steps(strands, one)
    need_steps(strands, other)
    return _words_made(strands, one), _words_made(strands, other)


def are_alike_braids(strands, one, other):
    """Whether both braids make the same words."""
    words, others = _words_of_both(strands, one, other)
    return words == others


def _unlike_parts(one, other):
    """What is left of two unlike words once all that both begin with, and then all that both end with, is cut off."""
    most = min(len(one), len(other))
    start = 0
    while start < most and one[start] == other[start]:
        start = start + 1
    end = 0
    while end < most - start and one[len(one) - 1 - end] == other[len(other) - 1 - end]:
        end = end + 1
    return one[start:len(one) - end], other[start:len(other) - end]


def _completed(partial, many):
    """An order of so many numbers that leads each number as the dict partial does, of which no two lead to one."""
    taken = {number: True for number in partial.values()}
    left = [number for number in range(many) if number not in taken]
    order = []
    used = 0
    for number in range(many):
        if number in partial:
            order.append(partial[number])
        else:
            order.append(left[used])
            used = used + 1
    return tuple(order)


def _orders_of_ways(strands, parts):
    """Orders by which two words that end unlike lead 0 on ways that part at once: so to unlike numbers."""
    partial = [{} for _ in range(strands)]
    many = 1
    for word in parts:
        here = 0
        # The last number of a word leads first.
        for number in reversed(word):
            if number > 0:
                partial[number - 1][here] = many
            else:
                partial[-number - 1][many] = here
            here = many
            many = many + 1
    return tuple([_completed(each, many) for each in partial])


def parting_orders(strands, one, other):
    """A tuple of orders that the two braids make unlike; None if they are alike."""
    words, others = _words_of_both(strands, one, other)
    found = [_unlike_parts(word, more) for word, more in zip(words, others) if word != more]
    if not found:
        return None
    sizes = [len(first) + len(second) for first, second in found]
    return _orders_of_ways(strands, found[sizes.index(min(sizes))])


def is_parting(strands, one, other, thing):
    """Whether thing, any value, is a tuple of so many orders that the two braids make unlike."""
    need_strands(strands)
    need_steps(strands, one)
    need_steps(strands, other)
    if not isinstance(thing, tuple) or len(thing) != strands or not is_order_list(thing):
        return False
    return orders_led(thing, one) != orders_led(thing, other)
