"""Tables of groups: lists of rows of numbers, with at i, j the thing to which things i and j are joined."""

from splitbooks.errors import BadGroup
from splitbooks.values import is_listing, is_number_within

MOST_GROUP = 16


def _is_number_table(value):
    """Whether value is a list of n rows of n numbers from 0 to n - 1, n from 1 to the limit."""
    if not is_listing(value) or not is_number_within(len(value), 1, MOST_GROUP):
        return False
    for row in value:
        if not is_listing(row) or len(row) != len(value):
            return False
        if not all([is_number_within(item, 0, len(value) - 1) for item in row]):
            return False
    return True


def is_group(value):
    """Whether value, any value, is the table of a group whose unit is 0."""
    if not _is_number_table(value):
        return False
    things = range(len(value))
    if not all([value[0][i] == i and value[i][0] == i for i in things]):
        return False
    # In a finite table that may be grouped at will, what undoes a thing from one side does so from the other.
    if not all([0 in row for row in value]):
        return False
    rows = [list(row) for row in value]
    return all([rows[row[j]] == [row[at] for at in rows[j]] for row in rows for j in things])


def need_group(table):
    """BadGroup unless a table of a group is given."""
    if not is_group(table):
        raise BadGroup("the table is not that of a group of 1 to 16 things with unit 0")


def undone_things(table):
    """The list of what undoes each thing of a group."""
    return [list(row).index(0) for row in table]
