"""Cuts of surfaces to try things on."""

import random


def handles(many):
    """One face: a, b, a undone, b undone, again and again; one number there and back for none."""
    if many == 0:
        return [[1, -1]]
    face = []
    for k in range(many):
        a, b = 2 * k + 1, 2 * k + 2
        face += [a, b, -a, -b]
    return [face]


def random_cut(edges, faces, seed):
    """Numbers in any sequence on faces that hang together; None if these do not."""
    chance = random.Random(seed * 10000 + edges * 100 + faces)
    numbers = [k for k in range(-edges, edges + 1) if k]
    chance.shuffle(numbers)
    ends = sorted(chance.sample(range(1, 2 * edges), faces - 1)) if faces > 1 else []
    cut = [numbers[a:b] for a, b in zip([0] + ends, ends + [2 * edges])]
    return cut if hangs(cut) else None


def hangs(cut):
    reached, todo = {0}, [0]
    while todo:
        for number in cut[todo.pop()]:
            for at, face in enumerate(cut):
                if -number in face and at not in reached:
                    reached.add(at)
                    todo.append(at)
    return len(reached) == len(cut)


def corners(cut):
    """The number of corners: lots of beginnings that are walked around."""
    behind = {}
    for face in cut:
        for at, number in enumerate(face):
            behind[number] = face[(at + 1) % len(face)]
    # Where a number begins, its negative ends: the next one begins there, too.
    left, many = set(behind), 0
    while left:
        many += 1
        number = min(left)
        while number in left:
            left.remove(number)
            number = behind[-number]
    return many


def genus_plainly(cut):
    edges = sum(map(len, cut)) // 2
    return (2 - corners(cut) + edges - len(cut)) // 2


# (genus, cut): known surfaces, cut in several ways.
KNOWN = [
    (0, [[1, -1]]), (0, [[1], [-1]]), (0, [[1, 2, -2, -1]]), (0, [[1, 2], [-2, -1]]), (0, [[1, -1, 2, -2]]),
    (0, [[1, 2, 3], [-1, 4, -5], [-2, 5, -6], [-3, 6, -4]]),
    (1, [[1, 2, -1, -2]]), (1, [[1, 2, 3], [-1, -2, -3]]), (1, [[1, 2, 3, -1, -2, -3]]),
    (2, [[1, 2, -1, -2, 3, 4, -3, -4]]), (2, [[1, 2, 3, 4, -1, -2, -3, -4]]), (2, [[1, 2, 3, 4, 5, -1, -2, -3, -4, -5]]),
    (3, handles(3)), (7, handles(7)), (15, handles(15)),
]


def some_cuts():
    """Many cuts, of few edges and of many, of one face and of several."""
    found = [cut for _, cut in KNOWN]
    for edges in (1, 2, 3, 4, 5, 6, 8, 12, 20, 29, 30):
        for faces in (1, 2, 3, 5):
            if faces <= edges + 1:
                for seed in range(4):
                    cut = random_cut(edges, faces, seed)
                    if cut is not None:
                        found.append(cut)
    return found


def renamed(cut, seed):
    """The cut with other names for its edges, some turned about, its faces begun elsewhere and in another sequence."""
    chance = random.Random(seed)
    edges = sum(map(len, cut)) // 2
    names = list(range(1, edges + 1))
    chance.shuffle(names)
    names = [name * chance.choice([-1, 1]) for name in names]
    faces = [[names[abs(k) - 1] * (1 if k > 0 else -1) for k in face] for face in cut]
    chance.shuffle(faces)
    return [face[at:] + face[:at] for face, at in [(face, chance.randrange(len(face))) for face in faces]]
