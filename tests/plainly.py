"""What the document says of tables, done in the plainest way, number by number: slow, and apart from the package."""


def join(prime, joins, x, y):
    places = range(len(joins))
    return tuple(sum(x[i] * y[j] * joins[i][j][k] for i in places for j in places) % prime for k in places)


def split(prime, splits, x):
    places = range(len(splits))
    return tuple(tuple(sum(x[i] * splits[i][j][k] for i in places) % prime for k in places) for j in places)


def count(prime, counts, x):
    return sum(a * b for a, b in zip(x, counts)) % prime


def lead(prime, rows, x):
    return tuple(sum(x[i] * rows[i][j] for i in range(len(rows))) % prime for j in range(len(rows[0])))


def lead_halves(prime, square, firsts, seconds):
    places = range(len(square))
    wide, high = len(firsts[0]), len(seconds[0])
    return tuple(tuple(sum(square[j][k] * firsts[j][a] * seconds[k][b] for j in places for k in places) % prime
                       for b in range(high)) for a in range(wide))


def pair(prime, x, y):
    return tuple(tuple(a * b % prime for b in y) for a in x)


def join_squares(prime, joins, first, second):
    """The sum over the pairs (a, b) of first and (c, d) of second of (a joined to c, b joined to d)."""
    places = range(len(joins))
    total = [[0] * len(joins) for _ in places]
    for a in places:
        for b in places:
            for c in places:
                for d in places:
                    number = first[a][b] * second[c][d] % prime
                    if number:
                        for m in places:
                            for n in places:
                                total[m][n] += number * joins[a][c][m] * joins[b][d][n]
    return tuple(tuple(number % prime for number in row) for row in total)


def tidy(rows, prime):
    """The tidy list of rows, by taking one column after the other."""
    rows = [[number % prime for number in row] for row in rows]
    done = 0
    for place in range(len(rows[0]) if rows else 0):
        for at in range(done, len(rows)):
            if rows[at][place]:
                rows[done], rows[at] = rows[at], rows[done]
                undone = pow(rows[done][place], -1, prime)
                rows[done] = [number * undone % prime for number in rows[done]]
                for other in range(len(rows)):
                    if other != done and rows[other][place]:
                        by = rows[other][place]
                        rows[other] = [(a - by * b) % prime for a, b in zip(rows[other], rows[done])]
                done += 1
                break
    return [tuple(row) for row in rows[:done]]


def rank(rows, prime):
    return len(tidy(rows, prime))


def is_sum(row, rows, prime):
    return rank(list(rows) + [row], prime) == rank(rows, prime)


def solved(equations, many, prime):
    """Numbers x with the sum of x[k] times the first numbers of each equation being its last one; None if none."""
    told = tidy(equations, prime)
    numbers = [0] * many
    for row in told:
        place = next(k for k, number in enumerate(row) if number)
        if place == many:
            return None
        numbers[place] = row[-1]
    return numbers


def back(prime, joins, one, splits, counts):
    """The map that undoes each split from both sides; None if there is none."""
    places = range(len(joins))
    size = len(joins)
    equations = []
    for i in places:
        for n in places:
            left, right = [0] * size ** 2, [0] * size ** 2
            for a in places:
                for b in places:
                    for m in places:
                        left[a * size + m] += splits[i][a][b] * joins[m][b][n]
                        right[b * size + m] += splits[i][a][b] * joins[a][m][n]
            wanted = counts[i] * one[n]
            equations += [left + [wanted], right + [wanted]]
    numbers = solved(equations, size ** 2, prime)
    return None if numbers is None else tuple(tuple(numbers[k * size:(k + 1) * size]) for k in places)


def wrong(prime, joins, one, splits, counts):
    """What what_is_wrong has to tell of tables of the right shapes."""
    places = range(len(joins))
    things = [tuple(1 if k == place else 0 for k in places) for place in places]
    joins = [[[number % prime for number in row] for row in square] for square in joins]
    splits = [[[number % prime for number in row] for row in square] for square in splits]
    one = tuple(number % prime for number in one)
    counts = tuple(number % prime for number in counts)

    def put(x, y):
        return join(prime, joins, x, y)

    for i in places:
        for j in places:
            for k in places:
                if put(put(things[i], things[j]), things[k]) != put(things[i], put(things[j], things[k])):
                    return ("joins", i, j, k)
    for i in places:
        if put(one, things[i]) != things[i] or put(things[i], one) != things[i]:
            return ("one", i)
    for i in places:
        for a in places:
            for b in places:
                for c in places:
                    first = sum(splits[i][j][c] * splits[j][a][b] for j in places) % prime
                    second = sum(splits[i][a][k] * splits[k][b][c] for k in places) % prime
                    if first != second:
                        return ("splits", i)
    for i in places:
        first = tuple(sum(counts[j] * splits[i][j][k] for j in places) % prime for k in places)
        second = tuple(sum(counts[k] * splits[i][j][k] for k in places) % prime for j in places)
        if first != things[i] or second != things[i]:
            return ("counts", i)
    if split(prime, splits, one) != pair(prime, one, one) or count(prime, counts, one) != 1:
        return ("both",)
    for i in places:
        for j in places:
            row = put(things[i], things[j])
            if split(prime, splits, row) != join_squares(prime, joins, splits[i], splits[j]):
                return ("both", i, j)
            if count(prime, counts, row) != counts[i] * counts[j] % prime:
                return ("both", i, j)
    if back(prime, joins, one, splits, counts) is None:
        return ("back",)
    return None
