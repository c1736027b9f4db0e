"""Patches: a room over each spot of an order, tables along its pairs. [9], [10]"""

from patchrooms.errors import NotFit, NotOrder, NotPatch, TooMany
from patchrooms.kinds import is_prime, is_table, is_wholes
from patchrooms.orders import down_of, need_order, part_order, up_of
from patchrooms.tables import behind_table, still_table, zero_table

MOST_AT_A_SPOT = 8
MOST_IN_ALL = 40


def is_order(value):
    """Whether the value is an order."""
    try:
        need_order(value)
    except NotOrder:
        return False
    return True


def has_sizes(order, sizes):
    """Whether these are sizes of a patch over the order."""
    return is_wholes(sizes, order[0], 0, MOST_AT_A_SPOT) and sum(sizes) <= MOST_IN_ALL


def wrong_table(prime, order, sizes, tables):
    """The index of the first pair whose table does not fit, -1 if they are not as many; else None."""
    if not isinstance(tables, tuple) or len(tables) != len(order[1]):
        return -1
    for place, (x, y) in enumerate(order[1]):
        if not is_table(prime, tables[place], sizes[y], sizes[x]):
            return place
    return None


def leads_of(patch):
    """The table of each pair of the order."""
    return {pair: table for pair, table in zip(patch[1][1], patch[3])}


def wrong_way(patch):
    """The index of the first pair that is led otherwise by some spot between; else None."""
    prime, order, sizes, tables = patch
    leads = leads_of(patch)
    for place, (x, z) in enumerate(order[1]):
        for y in range(order[0]):
            if (x, y) in leads and (y, z) in leads:
                if behind_table(prime, leads[x, y], leads[y, z], sizes[x]) != tables[place]:
                    return place
    return None


def patch_breach(value):
    """None for a patch, else the first broken rule and its place."""
    if not isinstance(value, tuple) or len(value) != 4:
        return "form", -1
    prime, order, sizes, tables = value
    if not is_prime(prime):
        return "prime", -1
    if not is_order(order):
        return "order", -1
    if not has_sizes(order, sizes):
        return "sizes", -1
    place = wrong_table(prime, order, sizes, tables)
    if place is not None:
        return "table", place
    place = wrong_way(value)
    if place is not None:
        return "ways", place
    return None


def need_patch(value):
    """The value, which is a patch."""
    breach = patch_breach(value)
    if breach is not None:
        raise NotPatch(breach[0], breach[1])
    return value


def need_fit(one, other):
    """Refuse patches over unlike orders or primes."""
    if one[0] != other[0] or one[1] != other[1]:
        raise NotFit("the orders or primes are unlike")


def need_in_all(sizes):
    """Refuse sizes that are too great in all."""
    if sum(sizes) > MOST_IN_ALL:
        raise TooMany(MOST_IN_ALL)


def need_sizes(sizes):
    """Refuse sizes that are too great in all, then ones that are too great at a spot."""
    need_in_all(sizes)
    if any(size > MOST_AT_A_SPOT for size in sizes):
        raise TooMany(MOST_AT_A_SPOT)


def level_patch(prime, order, size):
    """The patch with this size at all spots and tables that change nothing."""
    sizes = (size,) * order[0]
    need_in_all(sizes)
    return prime, order, sizes, (still_table(size),) * len(order[1])


def ones_patch(prime, order, spots):
    """The patch with the size 1 at these spots, 0 elsewhere, and 1 as the entry of each table between."""
    sizes = tuple([1 if x in spots else 0 for x in range(order[0])])
    tables = []
    for x, y in order[1]:
        both = sizes[x] == 1 and sizes[y] == 1
        tables.append(still_table(1) if both else zero_table(sizes[y], sizes[x]))
    return prime, order, sizes, tuple(tables)


def lone_patch(prime, order, x):
    """The patch with the size 1 at x and 0 elsewhere."""
    return ones_patch(prime, order, (x,))


def standing(prime, order, x):
    """The patch with the size 1 at x and all spots below it."""
    return ones_patch(prime, order, down_of(order, x))


def springing(prime, order, x):
    """The patch with the size 1 at x and all spots above it."""
    return ones_patch(prime, order, up_of(order, x))


def lead(patch, x, y):
    """The table that leads from x to y, x below y or the same."""
    if x == y:
        return still_table(patch[2][x])
    return patch[3][patch[1][1].index((x, y))]


def cut_patch(patch, spots):
    """The patch of these spots, over the order of them."""
    prime, order, sizes, tables = patch
    kept = [table for (x, y), table in zip(order[1], tables) if x in spots and y in spots]
    return prime, part_order(order, spots), tuple([sizes[x] for x in spots]), tuple(kept)


def size_in_all(patch):
    """The sum of the sizes."""
    return sum(patch[2])
