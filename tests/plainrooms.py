"""What the document says of rooms, number by number: slow, and apart from the package."""

from tests import plainly, samples


def led(prime, leads, thing, guest):
    """What a thing leads a guest to."""
    many = range(len(guest))
    return tuple(sum(thing[x] * guest[i] * leads[x][i][j] for x in range(len(thing)) for i in many if guest[i]) % prime
                 for j in many)


def room_wrong(book, leads):
    """What room_fault has to tell of leads of the right shape."""
    prime = book.prime
    guests = samples.plain(len(leads[0]))
    things = samples.plain(book.size)
    for i, guest in enumerate(guests):
        if led(prime, leads, book.one, guest) != guest:
            return ("one", i)
    for j, x in enumerate(things):
        for k, y in enumerate(things):
            for i, guest in enumerate(guests):
                first = led(prime, leads, plainly.join(prime, book.joins, x, y), guest)
                if first != led(prime, leads, x, led(prime, leads, y, guest)):
                    return ("leads", j, k, i)
    return None


def fall(prime, falls, guest):
    """The fall of a guest: at j, k the number of guest j paired with thing k."""
    return tuple(tuple(sum(guest[i] * falls[i][j][k] for i in range(len(falls))) % prime
                       for k in range(len(falls[0][0]))) for j in range(len(falls)))


def falls_wrong(book, falls):
    """What falls_fault has to tell of falls of the right shape."""
    prime = book.prime
    places, things = range(len(falls)), range(book.size)
    for i in places:
        counted = tuple(sum(falls[i][j][k] * book.counts[k] for k in things) % prime for j in places)
        if counted != samples.unit(len(falls), i):
            return ("counts", i)
    for i in places:
        for g in places:
            for later in things:
                for earlier in things:
                    number = sum(falls[i][j][earlier] * falls[j][g][later] for j in places)
                    if (number - sum(falls[i][g][k] * book.splits[k][later][earlier] for k in things)) % prime:
                        return ("falls", i)
    return None


def pairs(square):
    """(a, b, number) for the pairs of a square, number not 0."""
    return [(a, b, number) for a, row in enumerate(square) for b, number in enumerate(row) if number]


def add_pair(total, prime, number, guest, thing):
    for j, a in enumerate(guest):
        if a:
            for k, b in enumerate(thing):
                total[j][k] = (total[j][k] + number * a * b) % prime


def led_half_by_half(book, leads, falls, x, i):
    """First halves of thing x lead the guests of the fall of guest i, second ones are joined to its things."""
    prime = book.prime
    guests, things = samples.plain(len(falls)), samples.plain(book.size)
    total = [[0] * book.size for _ in guests]
    for a, b, number in pairs(book.splits[x]):
        for g, s, more in pairs(falls[i]):
            add_pair(total, prime, number * more, led(prime, leads, things[a], guests[g]), book.joins[b][s])
    return total


def both_wrong(book, leads, falls):
    """What BothRoom has to tell of leads and falls that are right by themselves."""
    prime = book.prime
    guests, things = samples.plain(len(falls)), samples.plain(book.size)
    for x in range(book.size):
        for i, guest in enumerate(guests):
            fallen = fall(prime, falls, led(prime, leads, things[x], guest))
            if [list(row) for row in fallen] != led_half_by_half(book, leads, falls, x, i):
                return ("both", x, i)
    return None


def cross_wrong(book, leads, falls):
    """What CrossRoom has to tell of leads and falls that are right by themselves."""
    prime = book.prime
    guests, things = samples.plain(len(falls)), samples.plain(book.size)
    for x in range(book.size):
        for i, guest in enumerate(guests):
            total = [[0] * book.size for _ in guests]
            for a, b, number in pairs(book.splits[x]):
                for j, s, more in pairs(fall(prime, falls, led(prime, leads, things[b], guest))):
                    add_pair(total, prime, number * more, guests[j], book.joins[s][a])
            if total != led_half_by_half(book, leads, falls, x, i):
                return ("cross", x, i)
    return None


def mean(one, other, rows):
    """The mean of a map from one to other."""
    from splitbooks.swallowed import swallowed_left
    book, prime = one.book, one.book.prime
    halves = pairs(plainly.split(prime, book.splits, swallowed_left(book)))
    things = samples.plain(book.size)
    found = []
    for guest in samples.plain(one.size):
        total = [0] * other.size
        for a, b, number in halves:
            row = plainly.lead(prime, rows, led(prime, one.leads, book.back[b], guest))
            row = led(prime, other.leads, things[a], row)
            total = [so_far + number * more for so_far, more in zip(total, row)]
        found.append(tuple(number % prime for number in total))
    return tuple(found)
