"""Patches and maps moved along a leading. [33] to [35]"""

from patchrooms.blocks import filled
from patchrooms.holes import sizes_of_holes
from patchrooms.leadings import same_or_below
from patchrooms.loads import need_loads
from patchrooms.lots import free_places, parts_of, rest_of
from patchrooms.orders import covers_of, height
from patchrooms.patches import cut_patch, lead, leads_of, level_patch, need_sizes
from patchrooms.tables import from_columns, reduced, times_table, unit
from patchrooms.tellings import cut_telling, split_column, tellings


def led_above(other, led, y):
    """The spots that are led to y or above it; an up set."""
    return tuple([x for x, z in enumerate(led) if same_or_below(other, y, z)])


def led_below(other, led, y):
    """The spots that are led to y or below it; a down set."""
    return tuple([x for x, z in enumerate(led) if same_or_below(other, z, y)])


def back_patch(patch, one, led):
    """The patch over one that has at each spot the columns over the spot to which it is led."""
    sizes = tuple([patch[2][y] for y in led])
    need_sizes(sizes)
    return patch[0], one, sizes, tuple([lead(patch, led[x], led[y]) for x, y in one[1]])


def upper_bases(patch, other, led):
    """For each spot of other the reduced basis of the tellings on the spots led to it or above it."""
    return [tellings(patch, led_above(other, led, y)) for y in range(other[0])]


def forward_patch(patch, other, led):
    """The patch over other of the tellings on the spots that are led to a spot or above it, told by parts."""
    prime = patch[0]
    bases = upper_bases(patch, other, led)
    sizes = tuple([len(basis) for basis in bases])
    need_sizes(sizes)
    tables = []
    for y, z in other[1]:
        spots, fewer = led_above(other, led, y), led_above(other, led, z)
        columns = [parts_of(prime, bases[z], cut_telling(patch, spots, fewer, telling)) for telling in bases[y]]
        tables.append(from_columns(columns, sizes[z]))
    return prime, other, sizes, tuple(tables)


def spread(patch, spots, told):
    """The column over the spots, one behind the other, that tells what told has for a spot, and zeros elsewhere."""
    return tuple([entry for x in spots for entry in told.get(x, (0,) * patch[2][x])])


def gathered_lot(patch, spots):
    """The least lot of columns over the spots in which a column and what it is led to are one."""
    prime, order, sizes = patch[:3]
    leads = leads_of(patch)
    found = []
    # What is one along the covers is one along all pairs; a down set has the spots between.
    for x, y in covers_of(order):
        if x in spots and y in spots:
            for place in range(sizes[x]):
                column = unit(sizes[x], place)
                opposite = tuple([-entry % prime for entry in times_table(prime, leads[x, y], column)])
                found.append(spread(patch, spots, {x: column, y: opposite}))
    return reduced(prime, tuple(found), sum([sizes[x] for x in spots]))


def split_at_spots(patch, spots, column):
    """What a column over the spots tells at each of them."""
    return {x: part for x, part in zip(spots, split_column([patch[2][spot] for spot in spots], column))}


def lower_lots(patch, other, led):
    """For each spot of other the spots that are led to it or below it, and the lot by which rests are told there."""
    downs = [led_below(other, led, y) for y in range(other[0])]
    return [(spots, gathered_lot(patch, spots)) for spots in downs]


def sizes_over(patch, spots):
    """The size of a column over the spots."""
    return sum([patch[2][x] for x in spots])


def free_columns(patch, spots, lot):
    """The columns over the spots of which the rests are the units."""
    size = sizes_over(patch, spots)
    return [unit(size, place) for place in free_places(lot, size)]


def gathered_patch(patch, other, led):
    """The patch over other of the columns of the spots that are led to a spot or below it, told by rests."""
    prime = patch[0]
    lower = lower_lots(patch, other, led)
    sizes = tuple([sizes_over(patch, spots) - len(lot) for spots, lot in lower])
    need_sizes(sizes)
    tables = []
    for y, z in other[1]:
        more, wide = lower[z]
        columns = []
        for column in free_columns(patch, lower[y][0], lower[y][1]):
            put = spread(patch, more, split_at_spots(patch, lower[y][0], column))
            columns.append(rest_of(prime, wide, put, len(put)))
        tables.append(from_columns(columns, sizes[z]))
    return prime, other, sizes, tuple(tables)


def led_column(one, other, led, spots, column):
    """What the map of one to other makes of a column over the spots, spot by spot."""
    told = split_at_spots(one, spots, column)
    return spread(other, spots, {x: times_table(one[0], led[x], part) for x, part in told.items()})


def forward_map(one, other, led, order, along):
    """The map between what is moved forward that leads tellings."""
    bases, further = upper_bases(one, order, along), upper_bases(other, order, along)
    tables = []
    for y in range(order[0]):
        spots = led_above(order, along, y)
        columns = [parts_of(one[0], further[y], led_column(one, other, led, spots, part)) for part in bases[y]]
        tables.append(from_columns(columns, len(further[y])))
    return tuple(tables)


def gathered_map(one, other, led, order, along):
    """The map between what is gathered that leads columns written one behind the other."""
    tables = []
    for (spots, lot), (_, wide) in zip(lower_lots(one, order, along), lower_lots(other, order, along)):
        size = sizes_over(other, spots)
        found = [led_column(one, other, led, spots, column) for column in free_columns(one, spots, lot)]
        columns = [rest_of(one[0], wide, column, size) for column in found]
        tables.append(from_columns(columns, size - len(wide)))
    return tuple(tables)


def moved_map(one, other, led, order, along, way):
    """The map from what is made of one along the leading to what is made of other, the way that is told."""
    if way == "back":
        for patch in (one, other):
            back_patch(patch, order, along)
        return tuple([led[y] for y in along])
    if way == "forward":
        for patch in (one, other):
            forward_patch(patch, order, along)
        return forward_map(one, other, led, order, along)
    for patch in (one, other):
        gathered_patch(patch, order, along)
    return gathered_map(one, other, led, order, along)


def forward_hole_sizes(patch, other, led):
    """For each spot of other the hole sizes of the patch cut to what is led to it or above it."""
    need_loads(patch)
    cuts = [cut_patch(patch, led_above(other, led, y)) for y in range(other[0])]
    return tuple([filled(sizes_of_holes(cut), height(patch[1]) + 1) for cut in cuts])


def is_tight(prime, one, other, led):
    """Whether level columns have one telling and no further holes on what is led to a spot or below it."""
    level = level_patch(prime, one, 1)
    need_loads(level)
    sizes = [sizes_of_holes(cut_patch(level, led_below(other, led, y))) for y in range(other[0])]
    return all(found == filled((1,), len(found)) for found in sizes)
