"""An up set and the rest: patches put into greater orders, held, and holes beside. [38], [39]"""

from patchrooms.blocks import filled, long_ranks
from patchrooms.errors import NotFit
from patchrooms.holes import sizes_of_holes
from patchrooms.loads import need_loads, sizes_by_rows
from patchrooms.lots import parts_of
from patchrooms.moved import forward_patch, led_above, upper_bases
from patchrooms.orders import height, is_up, part_order, up_hull, up_of, upside_down
from patchrooms.patches import cut_patch, lead, leads_of
from patchrooms.tables import from_columns, kernel, still_table, times_table, unit, zero_table
from patchrooms.tellings import cut_column, tellings


def has_all_between(order, spots):
    """Whether the spot set is what a down set and an up set share."""
    above, below = up_hull(order, spots), up_hull(upside_down(order), spots)
    return all(x in spots for x in above if x in below)


def put_in(patch, order, spots):
    """The patch over the order with the columns of the patch at the spots and sizes 0 elsewhere."""
    if patch[1] != part_order(order, spots) or not has_all_between(order, spots):
        raise NotFit("the patch lies over another order, or spots between lack")
    told = {x: size for x, size in zip(spots, patch[2])}
    sizes = tuple([told.get(x, 0) for x in range(order[0])])
    leads = {(spots[x], spots[y]): table for (x, y), table in leads_of(patch).items()}
    tables = [leads[x, y] if (x, y) in leads else zero_table(sizes[y], sizes[x]) for x, y in order[1]]
    return patch[0], order, sizes, tuple(tables)


def need_up(order, spots):
    """Refuse spots that are no up set."""
    if not is_up(order, spots):
        raise NotFit("the spots are no up set")


def up_row(patch, spots):
    """The maps of the cut to the up set, put in, to the patch and of this to the cut to the rest, put in."""
    need_up(patch[1], spots)
    first = [still_table(size) if x in spots else zero_table(size, 0) for x, size in enumerate(patch[2])]
    second = [() if x in spots else still_table(size) for x, size in enumerate(patch[2])]
    return tuple(first), tuple(second)


def held_basis(patch, spots, x):
    """The reduced basis of the tellings above x that tell zeros outside the spots."""
    upper = up_of(patch[1], x)
    found = tellings(patch, upper)
    outside = tuple([y for y in upper if y not in spots])
    # Sums of multiples of the columns of a reduced basis are told by a kernel, and reduced as the kernel is.
    told = from_columns([cut_column(patch[2], upper, outside, telling) for telling in found],
                        sum([patch[2][y] for y in outside]))
    parts = kernel(patch[0], told, len(found))
    size = sum([patch[2][y] for y in upper])
    return tuple([times_table(patch[0], from_columns(found, size), part) for part in parts])


def held_patch(patch, spots):
    """The patch of the tellings above each spot of the down set that tell zeros outside it, told by parts."""
    prime, order, sizes = patch[:3]
    bases = [held_basis(patch, spots, x) if x in spots else () for x in range(order[0])]
    tables = []
    for x, y in order[1]:
        cut = [cut_column(sizes, up_of(order, x), up_of(order, y), telling) for telling in bases[x]]
        tables.append(from_columns([parts_of(prime, bases[y], telling) for telling in cut], len(bases[y])))
    return prime, order, tuple([len(basis) for basis in bases]), tuple(tables)


def sizes_beside(patch, spots):
    """The hole sizes of the loads that tell zeros for all rows that begin in the spots."""
    return sizes_by_rows(patch, tuple([0 if x in spots else 1 for x in range(patch[1][0])]))


def beside_hole_sizes(patch, spots):
    """The hole sizes of the loads that tell zeros for all rows that begin in the up set."""
    need_loads(patch)
    return sizes_beside(patch, spots)


def away_map(patch, spots):
    """The map of the patch to its cut to the up set, moved forward, that leads columns to their leads there."""
    prime, order, sizes = patch[:3]
    need_up(order, spots)
    part = cut_patch(patch, spots)
    forward_patch(part, order, spots)
    bases = upper_bases(part, order, spots)
    tables = []
    for x in range(order[0]):
        higher = [spots[place] for place in led_above(order, spots, x)]
        columns = []
        for place in range(sizes[x]):
            led = [times_table(prime, lead(patch, x, y), unit(sizes[x], place)) for y in higher]
            columns.append(parts_of(prime, bases[x], tuple([entry for column in led for entry in column])))
        tables.append(from_columns(columns, len(bases[x])))
    return tuple(tables)


def beside_ranks(patch, spots):
    """For each degree the ranks of the ways from holes beside the up set to holes, to holes of the cut, and on."""
    need_loads(patch)
    cut = filled(sizes_of_holes(cut_patch(patch, spots)), height(patch[1]) + 1)
    return long_ranks(sizes_beside(patch, spots), sizes_of_holes(patch), cut)
