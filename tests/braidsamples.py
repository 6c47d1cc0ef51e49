"""Braids to try things on, and the moves that lead alike braids into one another."""

import random

# Values that are no number of strands.
NO_STRANDS = [0, 9, -1, 100, 2 ** 70]


def some_braid(strands, many, seed):
    chance = random.Random(seed * 1000 + strands * 50 + many)
    if strands == 1:
        return []
    return [chance.choice([-1, 1]) * chance.randrange(1, strands) for _ in range(many)]


def moved(strands, braid, seed, many=6):
    """The braid changed by some moves: steps put in and taken out, exchanged, and k, k + 1, k for k + 1, k, k + 1."""
    chance = random.Random(seed)
    braid = list(braid)
    for _ in range(many):
        at = chance.randrange(len(braid) + 1)
        move = chance.randrange(4)
        if move == 0 and strands > 1:
            k = chance.choice([-1, 1]) * chance.randrange(1, strands)
            braid[at:at] = [k, -k]
        if move == 1:
            for at in range(len(braid) - 1):
                if braid[at] == -braid[at + 1] and chance.randrange(2):
                    del braid[at:at + 2]
                    break
        if move == 2:
            for at in range(len(braid) - 1):
                if abs(abs(braid[at]) - abs(braid[at + 1])) > 1:
                    braid[at], braid[at + 1] = braid[at + 1], braid[at]
                    break
        if move == 3:
            if strands > 2:
                k = chance.randrange(1, strands - 1)
                rounds = [[k, k + 1, k], [k + 1, k, k + 1]]
                if chance.randrange(2):
                    rounds.reverse()
                undone = [-step for step in reversed(rounds[0])]
                # One of both and the other one undone, put in: then it is worked off by later moves, or not.
                braid[at:at] = rounds[1] + undone
            for at in range(len(braid) - 2):
                x, y, z = braid[at:at + 3]
                if x == z and x > 0 and y > 0 and abs(x - y) == 1:
                    braid[at:at + 3] = [y, x, y]
                    break
    return braid[:0] + braid


def alike_pairs(most=12):
    """(strands, braid, another one that is alike) for 1 to 8 strands."""
    found = []
    for strands in range(1, 9):
        for seed in range(4):
            braid = some_braid(strands, min(most, 2 + seed * 2), seed)
            found.append((strands, braid, moved(strands, braid, seed)))
    return found
