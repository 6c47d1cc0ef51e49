"""Pairs of things of a group that go past one another, and ways of the things that go past one thing."""

from splitbooks.errors import BadLetters, BadPair, BadThing
from splitbooks.groups import need_group, undone_things
from splitbooks.powers import power
from splitbooks.values import is_number_within, need_prime


def need_group_thing(table, thing):
    """BadThing unless thing is a number of the group."""
    if not is_number_within(thing, 0, len(table) - 1):
        raise BadThing("a number of a thing of the group is wanted")


def keeper_of(table, thing):
    """The ascending list of the things that go past a thing, all found right."""
    return [x for x in range(len(table)) if table[x][thing] == table[thing][x]]


def keeper(table, thing):
    """The ascending list of the things that, joined to a thing in either sequence, make the same."""
    need_group(table)
    need_group_thing(table, thing)
    return keeper_of(table, thing)


def _pairs_of(table):
    """The ascending list of all pairs that go past one another."""
    return [(x, y) for x in range(len(table)) for y in keeper_of(table, x)]


def pairs_past(table):
    """The ascending list of all pairs of things that go past one another."""
    need_group(table)
    return _pairs_of(table)


def turned_things(table):
    """At z, x what turning about by z makes of x: z joined to x joined to what undoes z."""
    undone = undone_things(table)
    return tuple([tuple([table[number][undone[z]] for number in row]) for z, row in enumerate(table)])


def pair_orbits(table):
    """The ascending list of the least pair of each lot of pairs that turning about makes of one another."""
    need_group(table)
    turned = turned_things(table)
    return [(x, y) for x, y in _pairs_of(table) if (x, y) == min([(row[x], row[y]) for row in turned])]


def _is_pair(table, value):
    """Whether value is a pair of things that go past one another."""
    if not isinstance(value, tuple) or len(value) != 2:
        return False
    if not all([is_number_within(thing, 0, len(table) - 1) for thing in value]):
        return False
    x, y = value
    return table[x][y] == table[y][x]


def _is_letters(value):
    """Whether value is a string of letters s and t."""
    return isinstance(value, str) and all([letter in ("s", "t") for letter in value])


def pair_led(table, pair, letters):
    """The pair that letters make of a pair in turn: s puts y undone and x, t puts x and x joined to y."""
    need_group(table)
    if not _is_pair(table, pair):
        raise BadPair("a pair of things that go past one another is wanted")
    if not _is_letters(letters):
        raise BadLetters("a string of letters s and t is wanted")
    undone = undone_things(table)
    x, y = pair
    for letter in letters:
        if letter == "s":
            x, y = undone[y], x
        else:
            y = table[x][y]
    return (x, y)


def _order_of(table, thing):
    """How many factors thing make the unit."""
    many = 1
    product = thing
    while product != 0:
        product = table[product][thing]
        many = many + 1
    return many


def _made_by(table, makers):
    """(thing, one ahead, maker) for all that makers make but the unit: one ahead, told earlier, joined to a maker."""
    steps = []
    found = {0: True}
    waiting = [0]
    while waiting:
        here = waiting.pop()
        for maker in makers:
            thing = table[here][maker]
            if thing not in found:
                found[thing] = True
                waiting.append(thing)
                steps.append((thing, here, maker))
    return steps


def _makers_of(table, things):
    """Few things that make all of an inner group, those first of which many factors make the unit."""
    ordered = sorted([(-_order_of(table, thing), thing) for thing in things])
    makers = []
    made = {0: True}
    for _, thing in ordered:
        if thing not in made:
            makers.append(thing)
            made = {number: True for number, _, _ in _made_by(table, makers)}
    return makers


def _choices(prime, table, makers):
    """All lists of numbers, one for each maker, of which as many factors as make its unit are 1."""
    found = [[]]
    for maker in makers:
        order = _order_of(table, maker)
        roots = [number for number in range(1, prime) if power(number, order, prime) == 1]
        found = [row + [root] for row in found for root in roots]
    return found


def ways_of(prime, table, thing):
    """The ascending list of the ways of the keeper of a thing, all found right."""
    things = keeper_of(table, thing)
    makers = _makers_of(table, things)
    steps = _made_by(table, makers)
    found = []
    for choice in _choices(prime, table, makers):
        number_of = dict(zip(makers, choice))
        way = [0] * len(table)
        way[0] = 1
        for made, ahead, maker in steps:
            way[made] = way[ahead] * number_of[maker] % prime
        if all([way[table[x][maker]] == way[x] * way[maker] % prime for x in things for maker in makers]):
            found.append(tuple(way))
    return sorted(found)


def ways(prime, table, thing):
    """The ascending list of the ways of the keeper of a thing: numbers that multiply as its things are joined."""
    need_prime(prime)
    need_group(table)
    need_group_thing(table, thing)
    return ways_of(prime, table, thing)
