"""Smash tables: things of a product table beside things of a splitbook that does something on it."""

from splitbooks.axes import cube_flat, cube_folded, moved, summed
from splitbooks.bases import other_way
from splitbooks.doingtables import ProductTable, doing_of, need_few_in_table
from splitbooks.known import Known
from splitbooks.linear import flat, plain
from splitbooks.tables import rows_paired


def _smash_of(book, table, doing):
    """The smash table of a doing that is taken."""
    prime = book.prime
    many = book.size
    size = table.size
    # At b, c, p, a: a joined to what p leads b to.
    joins = moved(cube_flat(table.joins), [size] * 3, [1, 0, 2])
    led = summed(cube_flat(doing), joins, size, prime)
    led = moved(led, [many, size, size, size], [0, 2, 1, 3])
    # At x, q, a, b, c: by the first half of x that stands beside q.
    halves = moved(cube_flat(book.splits), [many] * 3, [0, 2, 1])
    led = summed(halves, led, many, prime)
    # At x, a, b, c, y, z: q joined to y.
    led = moved(led, [many, many, size, size, size], [0, 2, 3, 4, 1])
    led = summed(led, cube_flat(book.joins), many, prime)
    led = moved(led, [many, size, size, size, many, many], [1, 0, 2, 4, 3, 5])
    cube = cube_folded(led, many * size, many * size)
    return ProductTable(prime, Known(cube), Known(flat(rows_paired(prime, table.one, book.one))))


def smash(book, table, doing):
    """The product table of things of table beside things of book, the first halves of these doing something."""
    doing = doing_of(book, table, doing)
    need_few_in_table(table.size * book.size)
    return _smash_of(book, table, doing)


def table_in_smash(book, table, doing):
    """The map that leads things of the table to them beside one."""
    doing_of(book, table, doing)
    need_few_in_table(table.size * book.size)
    return tuple([flat(rows_paired(book.prime, thing, book.one)) for thing in plain(table.size)])


def book_in_smash(book, table, doing):
    """The map that leads things of the book to one beside them."""
    doing_of(book, table, doing)
    need_few_in_table(table.size * book.size)
    return tuple([flat(rows_paired(book.prime, table.one, thing)) for thing in plain(book.size)])


def _rows_doing(book, table):
    """The doing of the rows on a smash table: they tell of second halves."""
    places = range(table.size)
    doing = []
    for f in range(book.size):
        # At x, z: what row f tells of what stands beside the first half z of x.
        told = [[line[f] for line in square] for square in book.splits]
        rows = [flat([row if a == b else (0,) * book.size for b in places]) for a in places for row in told]
        doing.append(tuple(rows))
    return tuple(doing)


def smash_doing(book, table, doing):
    """The doing of other_way(book) on the smash table: rows tell of second halves."""
    doing_of(book, table, doing)
    need_few_in_table(table.size * book.size)
    return _rows_doing(book, table)


def twice_smashed(book, table, doing):
    """The smash table, by smash_doing, of the smash table and the other way of the book."""
    doing = doing_of(book, table, doing)
    need_few_in_table(table.size * book.size * book.size)
    return _smash_of(other_way(book), _smash_of(book, table, doing), _rows_doing(book, table))
