"""Least rows of standing and of springing patches. [29], [32]"""

from patchrooms.duals import dual_patch
from patchrooms.errors import TooMany
from patchrooms.loads import need_few, sizes_by_rows
from patchrooms.lots import lead_places
from patchrooms.maps import rest_patch
from patchrooms.orders import height, up_of
from patchrooms.patches import lead
from patchrooms.tables import kernel, unit

MOST_IN_A_ROW = 200


def ending_basis(patch, x):
    """The reduced basis of the columns over x that all leads to spots above lead to zeros."""
    prime, order, sizes, tables = patch
    lines = []
    for (low, _), table in zip(order[1], tables):
        if low == x:
            lines.extend(table)
    return kernel(prime, tuple(lines), sizes[x])


def standing_entries(order, places):
    """For each spot y the pairs (x, place) of the standing patches with entries there, places telling x's."""
    return [[(x, place) for x in up_of(order, y) for place in places[x]] for y in range(order[0])]


def standing_sum(prime, order, entries):
    """The sum of standing patches with these entries, which its leads keep or leave out."""
    tables = []
    for y, z in order[1]:
        tables.append(tuple([unit(len(entries[y]), entries[y].index(entry)) for entry in entries[z]]))
    return prime, order, tuple([len(part) for part in entries]), tuple(tables)


def beyond(patch, places):
    """What is left of the least sum of standing patches that has the patch; places tells its lead places."""
    prime, order = patch[0], patch[1]
    entries = standing_entries(order, places)
    if sum([len(part) for part in entries]) > MOST_IN_A_ROW:
        raise TooMany(MOST_IN_A_ROW)
    # A column that ends at x is told by its entries at the lead places, so these entries, led to, lose nothing.
    led = tuple([tuple([lead(patch, y, x)[place] for x, place in entries[y]]) for y in range(order[0])])
    return rest_patch(patch, standing_sum(prime, order, entries), led)


def standing_counts(patch):
    """For each degree and spot the number of standing patches in the least standing row."""
    order = patch[1]
    counts = []
    for _ in range(height(order) + 1):
        places = [lead_places(ending_basis(patch, x)) for x in range(order[0])]
        counts.append(tuple([len(part) for part in places]))
        patch = beyond(patch, places)
    return tuple(counts)


def springing_counts(patch):
    """For each degree and spot the number of springing patches in the least springing row."""
    # Upside down springing patches stand, and the row runs the other way.
    return standing_counts(dual_patch(patch))


def near_sizes(patch, x):
    """For each degree the sizes of the holes of loads that tell zeros for all rows without x, above x."""
    firsts = tuple([1 if y == x else 0 for y in range(patch[1][0])])
    need_few(patch[1], firsts, patch[2])
    return sizes_by_rows(patch, firsts)
