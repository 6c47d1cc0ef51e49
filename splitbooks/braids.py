"""Braids: steps in which neighbouring strands cross; what they make of places, of group things and of orders."""

from splitbooks.errors import BadBraid, BadOrders, BadRow, BadStrands
from splitbooks.groups import need_group, undone_things
from splitbooks.values import is_listing, is_number, is_number_within

MOST_STRANDS = 8
MOST_STEPS = 40


def need_strands(strands):
    """BadStrands unless a number from 1 to 8 is given."""
    if not is_number_within(strands, 1, MOST_STRANDS):
        raise BadStrands("a number of strands from 1 to 8 is wanted")


def _is_step(strands, value):
    """Whether value is a number from 1 to strands - 1, or the negative of one."""
    return is_number(value) and 1 <= abs(value) < strands


def _is_steps(strands, value):
    """Whether value is a list of at most 40 steps of so many strands."""
    return is_listing(value) and len(value) <= MOST_STEPS and all([_is_step(strands, step) for step in value])


def need_steps(strands, braid):
    """BadBraid unless a braid of so many strands is given."""
    if not _is_steps(strands, braid):
        raise BadBraid("a braid of so many strands is wanted")


def need_braid(strands, braid):
    """BadStrands unless a number of strands is given, BadBraid unless a braid of so many."""
    need_strands(strands)
    need_steps(strands, braid)


def is_braid(strands, thing):
    """Whether thing, any value, is a braid of so many strands."""
    need_strands(strands)
    return _is_steps(strands, thing)


def braid_undone(strands, braid):
    """The list of the steps of a braid in reversed sequence, each with the other sign."""
    need_braid(strands, braid)
    return [-step for step in reversed(braid)]


def excess(strands, braid):
    """How many more steps are above 0 than below 0."""
    need_braid(strands, braid)
    return sum([1 if step > 0 else -1 for step in braid])


def places(strands, braid):
    """The places from 0 on, those of each step exchanged in turn."""
    need_braid(strands, braid)
    row = list(range(strands))
    for step in braid:
        k = abs(step)
        row[k - 1], row[k] = row[k], row[k - 1]
    return tuple(row)


def row_led(row, braid, turned_by, turned_back_by):
    """What the steps of a braid make of a row: of x, y they make y, x turned by y; or y turned back by x, x.

    turned_by(y, x) is y joined to x joined to y undone, turned_back_by(x, y) is x undone joined to y joined to x.
    """
    row = list(row)
    for step in braid:
        k = abs(step)
        x, y = row[k - 1], row[k]
        if step > 0:
            row[k - 1], row[k] = y, turned_by(y, x)
        else:
            row[k - 1], row[k] = turned_back_by(x, y), x
    return tuple(row)


def things_led(table, row, braid):
    """The tuple that the steps of a braid make of a row of things of a group."""
    need_group(table)
    if not is_listing(row) or not is_number_within(len(row), 1, MOST_STRANDS):
        raise BadRow("a list of 1 to 8 things of the group is wanted")
    if not all([is_number_within(thing, 0, len(table) - 1) for thing in row]):
        raise BadRow("a list of 1 to 8 things of the group is wanted")
    need_steps(len(row), braid)
    undone = undone_things(table)
    return row_led(row, braid, lambda y, x: table[table[y][x]][undone[y]],
                   lambda x, y: table[table[undone[x]][y]][x])


def is_order(value):
    """Whether value is a tuple of the numbers from 0 on, as many as there are, in some sequence."""
    if not isinstance(value, tuple) or not all([is_number_within(item, 0, len(value) - 1) for item in value]):
        return False
    return len(set(value)) == len(value)


def is_order_list(value):
    """Whether value is a list of 1 to 8 orders of one length from 1 on."""
    if not is_listing(value) or not is_number_within(len(value), 1, MOST_STRANDS):
        return False
    if not all([is_order(item) for item in value]):
        return False
    return len(value[0]) > 0 and all([len(item) == len(value[0]) for item in value])


def _order_undone(order):
    """The order that undoes an order."""
    undone = [0] * len(order)
    for place, number in enumerate(order):
        undone[number] = place
    return undone


def _order_turned(order, other):
    """order joined to other joined to what undoes order."""
    undone = _order_undone(order)
    return tuple([order[other[number]] for number in undone])


def _order_turned_back(order, other):
    """What undoes order, joined to other joined to order."""
    undone = _order_undone(order)
    return tuple([undone[other[number]] for number in order])


def orders_led(orders, braid):
    """The tuple that the steps of a braid make of a row of orders."""
    if not is_order_list(orders):
        raise BadOrders("a list of 1 to 8 orders of one length is wanted")
    need_steps(len(orders), braid)
    return row_led(orders, braid, _order_turned, _order_turned_back)
