"""Maps of patches, their kernels, images and rests. [12], [13]"""

from patchrooms.errors import NotMap, TooMany
from patchrooms.kinds import is_table
from patchrooms.lots import free_places, parts_of, rest_of
from patchrooms.orders import covers_of
from patchrooms.patches import leads_of, need_fit
from patchrooms.tables import behind_table, from_columns, image, kernel, still_table, times_table, unit
from patchrooms.tellings import split_column, starts_of

MOST_ENTRIES = 160


def has_tables(one, other, value):
    """Whether the value is a tuple of a fitting table for each spot."""
    if not isinstance(value, tuple) or len(value) != one[1][0]:
        return False
    return all(is_table(one[0], table, other[2][x], one[2][x]) for x, table in enumerate(value))


def need_map(one, other, value):
    """The value, which is a map of one to other."""
    need_fit(one, other)
    if not has_tables(one, other, value):
        raise NotMap(-1)
    prime, order, sizes = one[0], one[1], one[2]
    for place, (x, y) in enumerate(order[1]):
        first = behind_table(prime, one[3][place], value[y], sizes[x])
        if first != behind_table(prime, value[x], other[3][place], sizes[x]):
            raise NotMap(place)
    return value


def still_map(patch):
    """The map that changes nothing."""
    return tuple([still_table(size) for size in patch[2]])


def behind_map(one, other, third, first, second):
    """The map that is first of one to other and then second of other to third."""
    return tuple([behind_table(one[0], first[x], second[x], one[2][x]) for x in range(one[1][0])])


def entry_counts(one, other):
    """For each spot how many entries the table of a map has there."""
    return [lines * entries for lines, entries in zip(other[2], one[2])]


def road_line(prime, size, firsts, seconds):
    """The line of the size with the first entries at their places, less the second ones at theirs."""
    line = [0] * size
    for place, entry in firsts:
        line[place] = entry
    for place, entry in seconds:
        line[place] = -entry % prime
    return tuple(line)


def road_lines(one, other):
    """Lines that make zeros of a column of tables exactly if both roads of each pair agree."""
    starts = starts_of(entry_counts(one, other))
    size = sum(entry_counts(one, other))
    leads, further = leads_of(one), leads_of(other)
    lines = []
    # Roads that agree along the covers agree along all pairs.
    for x, y in covers_of(one[1]):
        for i in range(other[2][y]):
            for j in range(one[2][x]):
                firsts = [(starts[y] + i * one[2][y] + k, leads[x, y][k][j]) for k in range(one[2][y])]
                seconds = [(starts[x] + k * one[2][x] + j, further[x, y][i][k]) for k in range(other[2][x])]
                lines.append(road_line(one[0], size, firsts, seconds))
    return tuple(lines)


def map_space(one, other):
    """The reduced basis of all maps of one to other, each written as one column."""
    need_fit(one, other)
    size = sum(entry_counts(one, other))
    if size > MOST_ENTRIES:
        raise TooMany(MOST_ENTRIES)
    return kernel(one[0], road_lines(one, other), size)


def maps_size(one, other):
    """How many columns the reduced basis of all maps of one to other has."""
    return len(map_space(one, other))


def map_of_column(one, other, column):
    """The map that is written as the column."""
    led = []
    for x, told in enumerate(split_column(entry_counts(one, other), column)):
        entries = one[2][x]
        led.append(tuple([told[i * entries:i * entries + entries] for i in range(other[2][x])]))
    return tuple(led)


def kernels(one, led):
    """The reduced basis of the kernel at each spot."""
    return [kernel(one[0], table, size) for table, size in zip(led, one[2])]


def images(one, led):
    """The reduced basis of the image at each spot."""
    return [image(one[0], table, size) for table, size in zip(led, one[2])]


def parts_patch(patch, bases):
    """The patch of these lots, which the leads keep, each column told by its parts."""
    prime, order, _, tables = patch
    told = []
    for (x, y), table in zip(order[1], tables):
        columns = [parts_of(prime, bases[y], times_table(prime, table, column)) for column in bases[x]]
        told.append(from_columns(columns, len(bases[y])))
    return prime, order, tuple([len(basis) for basis in bases]), tuple(told)


def kernel_patch(one, other, led):
    """The patch of the columns of one that are led to zeros."""
    return parts_patch(one, kernels(one, led))


def image_patch(one, other, led):
    """The patch of the columns of other to which some are led."""
    return parts_patch(other, images(one, led))


def rest_table(prime, table, size, lines, low, high):
    """The table that leads rests by the basis low to rests by the basis high as the table does columns."""
    units = [unit(size, place) for place in free_places(low, size)]
    columns = [rest_of(prime, high, times_table(prime, table, column), lines) for column in units]
    return from_columns(columns, lines - len(high))


def rest_patch(one, other, led):
    """The patch of the columns of other, told by their rests by the images."""
    prime, order, sizes, tables = other
    bases = images(one, led)
    told = []
    for (x, y), table in zip(order[1], tables):
        told.append(rest_table(prime, table, sizes[x], sizes[y], bases[x], bases[y]))
    return prime, order, tuple([size - len(basis) for size, basis in zip(sizes, bases)]), tuple(told)


def told_map(patch, bases):
    """The map to the patch that leads parts by these bases to the columns that they tell."""
    return tuple([from_columns(basis, size) for basis, size in zip(bases, patch[2])])


def kernel_map(one, other, led):
    """The map of the kernel patch to one that leads parts to what they tell."""
    return told_map(one, kernels(one, led))


def image_maps(one, other, led):
    """The map of one to the image patch, and that of this to other."""
    prime = one[0]
    bases = images(one, led)
    ahead = []
    for basis, table, size in zip(bases, led, one[2]):
        columns = [parts_of(prime, basis, times_table(prime, table, unit(size, place))) for place in range(size)]
        ahead.append(from_columns(columns, len(basis)))
    return tuple(ahead), told_map(other, bases)


def rest_map(one, other, led):
    """The map of other to the rest patch that leads a column to its rest."""
    rests = []
    for basis, size in zip(images(one, led), other[2]):
        # All of a lot of zeros is left free, so the table changes nothing ahead of the rests.
        rests.append(rest_table(one[0], still_table(size), size, size, (), basis))
    return tuple(rests)


def is_exact(one, other, third, first, second):
    """Whether at each spot the image of the first map is the kernel of the second one."""
    return images(one, first) == kernels(other, second)
