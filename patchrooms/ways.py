"""Ways from one patch to another one, and the signs between spots. [30], [31]"""

from patchrooms.blocks import block_table, hole_counts, sign_of
from patchrooms.loads import need_few, row_room, stepped, without
from patchrooms.orders import height
from patchrooms.patches import leads_of, need_fit
from patchrooms.sums import mixed_table
from patchrooms.tables import columns_of, still_table


def way_room(one, other, k):
    """The room of the loads of the degree k: for each row a table, its lines one behind the other."""
    return row_room(one[1], k, one[2], other[2])


def way_blocks(one, other, leads, further, lower, row):
    """What the rows without one spot, if they have entries, add to the border at the row.

    leads are those of one, further those of other.
    """
    prime, first, last = one[0], row[0], row[-1]
    blocks = []
    if row[1:] in lower:
        ahead = columns_of(leads[first, row[1]], one[2][first])
        blocks.append((row[1:], 1, mixed_table(prime, still_table(other[2][last]), ahead)))
    for i in range(1, len(row) - 1):
        # Both ends stay, so the row without this spot has entries, too.
        blocks.append((without(row, i), sign_of(i), still_table(one[2][first] * other[2][last])))
    if row[:-1] in lower:
        behind = mixed_table(prime, further[row[-2], last], still_table(one[2][first]))
        blocks.append((row[:-1], sign_of(len(row) - 1), behind))
    return blocks


def way_border(one, other, lower, upper):
    """The table that leads loads on the rows lower to their borders on the rows upper, which are longer by one."""
    leads, further = leads_of(one), leads_of(other)
    blocks = {row: way_blocks(one, other, leads, further, lower, row) for row in upper}
    return block_table(one[0], lower, upper, blocks)


def need_few_ways(one, other):
    """Refuse patches that do not fit, then loads with too many entries in some degree."""
    need_fit(one, other)
    need_few(one[1], one[2], other[2])


def counts_of_rooms(one, other, rooms):
    """For each room of ways how many holes a basis has."""
    borders = [way_border(one, other, rooms[k], rooms[k + 1]) for k in range(len(rooms) - 1)]
    return hole_counts(one[0], rooms, borders)


def ways_size(one, other, k):
    """The size of the k-th ways from one to other."""
    need_few_ways(one, other)
    return counts_of_rooms(one, other, [way_room(one, other, degree) for degree in (k - 1, k, k + 1)])[1]


def ways_sizes(one, other):
    """The sizes of the ways for each degree to the height of the order."""
    need_few_ways(one, other)
    return counts_of_rooms(one, other, [way_room(one, other, k) for k in range(height(one[1]) + 1)])


def signs_from(order, x):
    """For each spot the sum over all rows from x to it of 1 or -1, by their length."""
    counts = [1 if y == x else 0 for y in range(order[0])]
    total = counts
    length = 0
    while any(counts):
        counts = stepped(order, counts)
        length += 1
        total = [a + sign_of(length) * b for a, b in zip(total, counts)]
    return tuple(total)


def signs_between(order):
    """For each pair of spots x and y the sum with signs over all rows from x to y."""
    return tuple([signs_from(order, x) for x in range(order[0])])
