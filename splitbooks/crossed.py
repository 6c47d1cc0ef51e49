"""Crossed pairs of groups: each moves, or turns, the things of the other; the group of both, and their splitbook."""

from itertools import permutations

from splitbooks.books import MOST_THINGS, Splitbook
from splitbooks.errors import BadCrossed, BadShape, TooMany
from splitbooks.groups import need_group, undone_things
from splitbooks.linear import across
from splitbooks.values import is_listing, is_number_within, need_prime

MOST_PAIRED = 4


def _is_table(value, many, wide, most):
    """Whether value is a list of many rows of wide numbers from 0 to most."""
    if not is_listing(value) or len(value) != many:
        return False
    return all([is_listing(row) and len(row) == wide and all([is_number_within(item, 0, most) for item in row])
                for row in value])


def _units_fault(moves, turns):
    """The least s, x at which a unit moves or turns a thing, or None."""
    for s, row in enumerate(moves):
        for x, moved in enumerate(row):
            if (s == 0 and moved != x) or (x == 0 and turns[s][0] != s):
                return (s, x)
    return None


def _moves_fault(other, moves):
    """The least s, t, x for which s joined to t does not move x as t and then s do, or None."""
    for s, row in enumerate(other):
        for t, both in enumerate(row):
            for x, moved in enumerate(moves[both]):
                if moved != moves[s][moves[t][x]]:
                    return (s, t, x)
    return None


def _turns_fault(one, turns):
    """The least s, x, y for which x joined to y does not turn s as x and then y do, or None."""
    for s, turned in enumerate(turns):
        for x, row in enumerate(one):
            for y, both in enumerate(row):
                if turned[both] != turns[turned[x]][y]:
                    return (s, x, y)
    return None


def _products_fault(one, moves, turns):
    """The least s, x, y for which s does not move x joined to y to what it moves x to, joined to y moved, or None."""
    for s, moved in enumerate(moves):
        for x, row in enumerate(one):
            for y, both in enumerate(row):
                if moved[both] != one[moved[x]][moves[turns[s][x]][y]]:
                    return (s, x, y)
    return None


def _steps_fault(other, moves, turns):
    """The least s, t, x for which x does not turn s joined to t to s turned, joined to what it turns t to, or None."""
    for s, row in enumerate(other):
        for t, both in enumerate(row):
            for x, turned in enumerate(turns[both]):
                if turned != other[turns[s][moves[t][x]]][turns[t][x]]:
                    return (s, t, x)
    return None


def _first_fault(one, other, moves, turns):
    """The tuple of pair_fault, or None, for tables of groups and tables of the right shapes."""
    judges = (("units", _units_fault(moves, turns)), ("moves", _moves_fault(other, moves)),
              ("turns", _turns_fault(one, turns)), ("products", _products_fault(one, moves, turns)),
              ("steps", _steps_fault(other, moves, turns)))
    for word, places in judges:
        if places is not None:
            return (word,) + places
    return None


def pair_fault(one, other, moves, turns):
    """None if moves and turns are a crossed pair of two groups, otherwise a tuple that tells the first wrong place."""
    need_group(one)
    need_group(other)
    if not _is_table(moves, len(other), len(one), len(one) - 1):
        raise BadShape("moves")
    if not _is_table(turns, len(other), len(one), len(other) - 1):
        raise BadShape("turns")
    return _first_fault(one, other, moves, turns)


def need_pair(one, other, moves, turns):
    """The errors of pair_fault, and BadCrossed with what it tells."""
    fault = pair_fault(one, other, moves, turns)
    if fault is not None:
        raise BadCrossed(fault)


def need_few_things(many):
    """TooMany(16) if these are more things than a splitbook, or the table of a group, may have."""
    if many > MOST_THINGS:
        raise TooMany(MOST_THINGS)


def crossed_group(one, other, moves, turns):
    """The table of the group of pairs x, s: s is put past the next y by moving this and being turned by it."""
    need_pair(one, other, moves, turns)
    many = len(other)
    need_few_things(len(one) * many)
    things = [(x, s) for x in range(len(one)) for s in range(many)]
    return tuple([tuple([one[x][moves[s][y]] * many + other[turns[s][y]][t] for y, t in things]) for x, s in things])


def _is_inner_group(table, things):
    """Whether things, any value, is a list of unlike things that begins with 0 and has what they are joined to."""
    if not is_listing(things) or not all([is_number_within(thing, 0, len(table) - 1) for thing in things]):
        return False
    if len(things) == 0 or things[0] != 0 or len(set(things)) < len(things):
        return False
    return all([table[x][y] in things for x in things for y in things])


def crossed_from(table, first, second):
    """The crossed pair of two groups within a group whose things are those of both, joined, in just one way."""
    need_group(table)
    if not _is_inner_group(table, first):
        raise BadShape("first")
    if not _is_inner_group(table, second):
        raise BadShape("second")
    place_of = {table[x][s]: (i, k) for i, x in enumerate(first) for k, s in enumerate(second)}
    if len(place_of) != len(table) or len(first) * len(second) != len(table):
        raise BadShape("table")
    one = tuple([tuple([first.index(table[x][y]) for y in first]) for x in first])
    other = tuple([tuple([second.index(table[s][t]) for t in second]) for s in second])
    moves = tuple([tuple([place_of[table[s][x]][0] for x in first]) for s in second])
    turns = tuple([tuple([place_of[table[s][x]][1] for x in first]) for s in second])
    return one, other, moves, turns


def _actions(table, many):
    """All tables of one order of many things, 0 staying, for each thing of a group: unit first, those of joined things.

    What two joined things make is what the second one makes, and then the first one.
    """
    orders = [(0,) + row for row in permutations(range(1, many))]
    found = [(orders[0],)]
    for _ in table[1:]:
        found = [rows + (order,) for rows in found for order in orders]
    return [rows for rows in found if _moves_fault(table, rows) is None]


def crossed_pairs(one, other):
    """The ascending list of all crossed pairs of moves and turns of two groups."""
    need_group(one)
    need_group(other)
    if max(len(one), len(other)) > MOST_PAIRED:
        raise TooMany(MOST_PAIRED)
    # Turns go the other way round: what two joined things make is what the first one makes, and then the second one.
    turned = [across(rows) for rows in _actions(across(one), len(other))]
    found = []
    for moves in _actions(other, len(one)):
        for turns in turned:
            if _products_fault(one, moves, turns) is None and _steps_fault(other, moves, turns) is None:
                found.append((moves, turns))
    return sorted(found)


def crossed_swapped(one, other, moves, turns):
    """The moves and turns of the crossed pair of other and one."""
    need_pair(one, other, moves, turns)
    bars = undone_things(one)
    undone = undone_things(other)
    swapped = tuple([tuple([undone[turns[s][x]] for s in undone]) for x in bars])
    turned = tuple([tuple([bars[moves[s][x]] for s in undone]) for x in bars])
    return swapped, turned


def crossed_book(prime, one, other, moves, turns):
    """The splitbook of pairs s, x of a crossed pair: they are joined as things of one, split as things of other."""
    need_prime(prime)
    need_pair(one, other, moves, turns)
    wide = len(one)
    size = wide * len(other)
    need_few_things(size)
    things = [(s, x) for s in range(len(other)) for x in range(wide)]
    joins = []
    splits = []
    for s, x in things:
        rows = [[0] * size for _ in things]
        for y, both in enumerate(one[x]):
            rows[turns[s][x] * wide + y][s * wide + both] = 1
        joins.append(rows)
        square = [[0] * size for _ in things]
        for t, row in enumerate(other):
            u = list(row).index(s)
            square[t * wide + moves[u][x]][u * wide + x] = 1
        splits.append(square)
    ones = [1 if x == 0 else 0 for _, x in things]
    counts = [1 if s == 0 else 0 for s, _ in things]
    return Splitbook(prime, joins, ones, splits, counts)
