"""Loads on the rows of an order: their rooms, bounds and borders. [18]

A row has as many entries as the numbers of its first spot in firsts and of its last spot in lasts, multiplied.
"""

from patchrooms.blocks import block_table, hole_counts, sign_of
from patchrooms.errors import TooMany
from patchrooms.orders import above_all, height
from patchrooms.patches import leads_of
from patchrooms.tables import still_table

MOST_LOADS = 160


def stepped(order, counts):
    """For each spot the sum of the counts of the spots below it."""
    found = [0] * order[0]
    for x, y in order[1]:
        found[y] += counts[x]
    return found


def need_few(order, firsts, lasts):
    """Refuse rows that have in some degree too many entries."""
    # Rows are counted, not made, since there may be very many of them.
    counts = list(firsts)
    while any(counts):
        if sum([count * many for count, many in zip(counts, lasts)]) > MOST_LOADS:
            raise TooMany(MOST_LOADS)
        counts = stepped(order, counts)


def every_spot(patch):
    """A number 1 for each spot: rows may begin everywhere."""
    return (1,) * patch[1][0]


def need_loads(patch):
    """Refuse a patch that has too many loads."""
    need_few(patch[1], every_spot(patch), patch[2])


def rows_within(order, k, firsts, lasts):
    """The rows of the length k that have entries, ascending; none for k below 0."""
    if k < 0:
        return ()
    above = above_all(order)
    # Beginnings of rows that can end nowhere are left out, which keeps them few where the rows are few.
    useful = [x for x in range(order[0]) if lasts[x] or any(lasts[y] for y in above[x])]
    nexts = [[y for y in above[x] if y in useful] for x in range(order[0])]
    found = [(x,) for x in useful if firsts[x]]
    for _ in range(k):
        found = [row + (y,) for row in found for y in nexts[row[-1]]]
    return tuple([row for row in found if lasts[row[-1]]])


def row_room(order, k, firsts, lasts):
    """The room of the rows of the length k that have entries."""
    return {row: firsts[row[0]] * lasts[row[-1]] for row in rows_within(order, k, firsts, lasts)}


def without(row, i):
    """The row without its entry i."""
    return row[:i] + row[i + 1:]


def border_blocks(patch, leads, lower, row):
    """What the rows without one spot, if they have entries, add to the border at the row."""
    blocks = []
    for i in range(len(row) - 1):
        if without(row, i) in lower:
            blocks.append((without(row, i), sign_of(i), still_table(patch[2][row[-1]])))
    if row[:-1] in lower:
        blocks.append((row[:-1], sign_of(len(row) - 1), leads[row[-2], row[-1]]))
    return blocks


def row_border(patch, lower, upper):
    """The table that leads loads on the rows lower to their borders on the rows upper, which are longer by one."""
    leads = leads_of(patch)
    blocks = {row: border_blocks(patch, leads, lower, row) for row in upper}
    return block_table(patch[0], lower, upper, blocks)


def sizes_by_rows(patch, firsts):
    """The hole sizes, to the height, of the loads that tell zeros for rows that begin where firsts has 0."""
    top = height(patch[1])
    rooms = [row_room(patch[1], k, firsts, patch[2]) for k in range(top + 1)]
    borders = [row_border(patch, rooms[k], rooms[k + 1]) for k in range(top)]
    return hole_counts(patch[0], rooms, borders)
