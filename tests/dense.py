"""Tables of sixteen things in bases in which hardly any number is 0, and what the document says of them."""

from tests import plainly, samples

SIZE = 16


def dense_rows(prime, size=SIZE):
    """The rows of a basis: a lower square, 1 on its diagonal, times an upper one."""
    def low(i, k):
        return 1 if i == k else (i * k + 3 * i + k) % prime if k < i else 0

    def high(k, j):
        return 1 if k == j else (5 * k * j + k + 2) % prime if j > k else 0

    return [[sum(low(i, k) * high(k, j) for k in range(size)) % prime for j in range(size)] for i in range(size)]


def last_apart(prime):
    """Rows of a basis of which all but the last one are sums of multiples of all things but the last one."""
    rows = dense_rows(prime)
    return [row[:SIZE - 1] + [0] for row in rows[:SIZE - 1]] + [rows[-1][:SIZE - 1] + [1]]


def even_at_end(prime):
    """Rows of a basis of which all but the last one have the same number at the last two places."""
    rows = dense_rows(prime)
    return [row[:15] + row[14:15] for row in rows[:15]] + [rows[-1][:15] + [rows[-1][14] + 1]]


def undone(rows, prime):
    told = plainly.tidy([list(row) + list(unit) for row, unit in zip(rows, samples.plain(len(rows)))], prime)
    return [row[len(rows):] for row in told]


def led_cube(prime, cube, firsts, seconds, thirds):
    """The sum over a, b, c of firsts[i][a] * seconds[j][b] * cube[a][b][c] * thirds[c][k] at i, j, k."""
    places = range(len(cube))
    one = [[[sum(firsts[i][a] * cube[a][b][c] for a in places) % prime for c in places] for b in places] for i in places]
    two = [[[sum(seconds[j][b] * one[i][b][c] for b in places) % prime for c in places] for j in places] for i in places]
    return [[[sum(two[i][j][c] * thirds[c][k] for c in places) % prime for k in places] for j in places] for i in places]


def in_rows(tables, rows):
    """The tables whose thing k stands for rows[k]."""
    prime, joins, one, splits, counts = tables
    back = undone(rows, prime)
    across = [list(column) for column in zip(*back)]
    return (prime, led_cube(prime, joins, rows, rows, back), list(plainly.lead(prime, back, one)),
            led_cube(prime, splits, rows, across, back),
            [sum(a * b for a, b in zip(row, counts)) % prime for row in rows])


def least_joins_fault(prime, joins):
    places = range(len(joins))
    for i in places:
        for j in places:
            for k in places:
                for m in places:
                    first = sum(joins[i][j][a] * joins[a][k][m] for a in places)
                    if (first - sum(joins[j][k][a] * joins[i][a][m] for a in places)) % prime:
                        return ("joins", i, j, k)
    return None


def least_one_fault(prime, joins, one):
    for i, thing in enumerate(samples.plain(len(joins))):
        if plainly.join(prime, joins, one, thing) != thing or plainly.join(prime, joins, thing, one) != thing:
            return ("one", i)
    return None


def least_splits_fault(prime, splits):
    places = range(len(splits))
    for i in places:
        for a in places:
            for b in places:
                for c in places:
                    first = sum(splits[i][j][c] * splits[j][a][b] for j in places)
                    if (first - sum(splits[i][a][k] * splits[k][b][c] for k in places)) % prime:
                        return ("splits", i)
    return None


def least_counts_fault(prime, splits, counts):
    places = range(len(splits))
    for i, thing in enumerate(samples.plain(len(splits))):
        first = tuple(sum(counts[j] * splits[i][j][k] for j in places) % prime for k in places)
        second = tuple(sum(counts[k] * splits[i][j][k] for k in places) % prime for j in places)
        if first != thing or second != thing:
            return ("counts", i)
    return None


def go_together(prime, joins, splits, i, j):
    """Whether the split of i joined to j is the splits of i and of j joined half by half."""
    places = range(len(joins))
    # At b, m and c: first halves of i, beside the second half b, joined to the first half c.
    ahead = [[[sum(splits[i][a][b] * joins[a][c][m] for a in places) % prime for c in places] for m in places]
             for b in places]
    # At b, m and d: the same, joined to all first halves of j that stand beside the second half d.
    beside = [[[sum(ahead[b][m][c] * splits[j][c][d] for c in places) % prime for d in places] for m in places]
              for b in places]
    joined = plainly.split(prime, splits, joins[i][j])
    for m in places:
        for n in places:
            number = sum(beside[b][m][d] * joins[b][d][n] for b in places for d in places)
            if (number - joined[m][n]) % prime:
                return False
    return True


def idempotents():
    """Joins of things of which each, joined to itself, is itself, and to others 0."""
    return [[list(samples.unit(SIZE, i)) if i == j else [0] * SIZE for j in range(SIZE)] for i in range(SIZE)]


def no_cube():
    return [[[0] * SIZE for _ in range(SIZE)] for _ in range(SIZE)]


def wrong_joins(prime):
    """Joins in which just thing 15, joined twice to itself, hangs on the grouping."""
    joins = no_cube()
    joins[15][15][0] = 1
    joins[0][15][1] = 1
    return prime, joins, [0] * SIZE, no_cube(), [0] * SIZE


def wrong_one(prime):
    """One leaves all things but thing 15."""
    joins = idempotents()
    joins[15][15][15] = 0
    return prime, joins, [1] * 15 + [0], no_cube(), [0] * SIZE


def wrong_splits(prime):
    """The split of thing 15 alone is split further in two ways."""
    splits = idempotents()
    splits[15][15][15] = 0
    splits[15][0][1] = 1
    return prime, idempotents(), [1] * SIZE, splits, [1] * SIZE


def wrong_counts(prime):
    """Nothing is left of thing 15 alone."""
    splits = idempotents()
    splits[15][15][15] = 0
    return prime, idempotents(), [1] * SIZE, splits, [1] * SIZE


def wrong_one_split(prime):
    """One is the sum of things that split into themselves twice."""
    return prime, idempotents(), [1] * SIZE, idempotents(), [1] * SIZE


def wrong_both(prime):
    """Rows of numbers at points, where two points are joined to 2 times one point less the last one.

    Splits and joins of two rows go together if one of them has the same number at the last two points.
    """
    splits = no_cube()
    for at in range(SIZE):
        splits[at][0][at] = 1
        splits[at][at][0] = 1
    for i in range(1, SIZE):
        for j in range(1, SIZE):
            splits[14][i][j] = 2
            splits[15][i][j] = prime - 1
    return prime, idempotents(), [1] * SIZE, splits, [1] + [0] * 15


def wrong_back(prime):
    """The turns of fifteen things, and a thing that takes in all others."""
    table = [[(i + j) % 15 if max(i, j) < 15 else 15 for j in range(SIZE)] for i in range(SIZE)]
    joins = [[list(samples.unit(SIZE, k)) for k in row] for row in table]
    return prime, joins, list(samples.unit(SIZE, 0)), idempotents(), [1] * SIZE
