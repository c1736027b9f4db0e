"""Patches upside down, low holes, and orders that are round. [40], [41]"""

from patchrooms.holes import hole_sizes, sizes_of_holes
from patchrooms.loads import need_loads
from patchrooms.orders import height, rows, upside_down
from patchrooms.patches import cut_patch, level_patch
from patchrooms.tables import columns_of, zeros


def dual_patch(patch):
    """The patch over the order upside down, lines and entries of its tables exchanged."""
    prime, order, sizes, tables = patch
    turned = {(y, x): columns_of(table, sizes[x]) for (x, y), table in zip(order[1], tables)}
    low = upside_down(order)
    return prime, low, sizes, tuple([turned[pair] for pair in low[1]])


def dual_map(one, other, led):
    """The map of the dual of other to that of one, lines and entries of its tables exchanged."""
    return tuple([columns_of(table, size) for table, size in zip(led, one[2])])


def low_hole_sizes(patch):
    """For each degree the sizes of the holes by loads that tell columns over the first spots of rows."""
    return hole_sizes(dual_patch(patch))


def is_comparable(order, x, y):
    """Whether x is below or above y."""
    return (x, y) in order[1] or (y, x) in order[1]


def neighbourhood(order, row):
    """The spot set of all other spots that are comparable to each spot of the row."""
    return tuple([x for x in range(order[0]) if all(is_comparable(order, x, y) for y in row)])


def skin(degree):
    """The hole sizes of a skin of the degree."""
    if degree < 0:
        return ()
    if degree == 0:
        return (2,)
    return (1,) + zeros(degree - 1) + (1,)


def is_round(prime, order, d):
    """Whether the neighbourhood of each row with r spots has the holes of a skin of the degree d - r."""
    level = level_patch(prime, order, 1)
    need_loads(level)
    if height(order) > d:
        return False
    known = {}
    for length in range(height(order) + 1):
        for row in rows(order, length):
            near = neighbourhood(order, row)
            # Many rows have one neighbourhood. With no row too long its height is at most d - r, so that
            # no zeros can stand behind the last 1.
            if near not in known:
                known[near] = sizes_of_holes(cut_patch(level, near))
            if known[near] != skin(d - len(row)):
                return False
    return True
