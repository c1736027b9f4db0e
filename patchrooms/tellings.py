"""Tellings of a patch on spot sets. [11]"""

from patchrooms.orders import covers_of
from patchrooms.patches import cut_patch, leads_of
from patchrooms.tables import kernel


def starts_of(sizes):
    """For each spot the place at which its entries begin, spots being written one behind the other."""
    return [sum(sizes[:x]) for x in range(len(sizes))]


def agreeing_lines(patch):
    """Lines that make zeros of a column over all spots exactly if it is a telling on all of them."""
    prime, order, sizes, _ = patch
    starts = starts_of(sizes)
    lines = []
    leads = leads_of(patch)
    # What agrees along the covers agrees along all pairs, since leads are led one behind the other.
    for x, y in covers_of(order):
        for place, entries in enumerate(leads[x, y]):
            line = [0] * sum(sizes)
            line[starts[x]:starts[x] + sizes[x]] = entries
            line[starts[y] + place] = prime - 1
            lines.append(tuple(line))
    return tuple(lines)


def tellings(patch, spots):
    """The reduced basis of all tellings on the spot set."""
    part = cut_patch(patch, spots)
    return kernel(part[0], agreeing_lines(part), sum(part[2]))


def split_column(sizes, column):
    """What a column over all spots tells at each of them."""
    return [column[start:start + size] for start, size in zip(starts_of(sizes), sizes)]


def cut_column(sizes, spots, fewer, column):
    """What a column over the spots, with a size for each spot of the order, tells at fewer of them."""
    told = split_column([sizes[x] for x in spots], column)
    return tuple([entry for x, part in zip(spots, told) if x in fewer for entry in part])


def cut_telling(patch, spots, fewer, telling):
    """What the telling on the spots tells on the lesser spot set."""
    return cut_column(patch[2], spots, fewer, telling)


def glued(patch, one, other, first, second):
    """The telling on both up sets that tells the first on one and the second on other, or None."""
    shared = tuple([x for x in one if x in other])
    if cut_telling(patch, one, shared, first) != cut_telling(patch, other, shared, second):
        return None
    told = {x: part for x, part in zip(one, split_column([patch[2][spot] for spot in one], first))}
    more = {x: part for x, part in zip(other, split_column([patch[2][spot] for spot in other], second))}
    told.update(more)
    return tuple([entry for x in sorted(told) for entry in told[x]])
