"""Products of loads and of holes. [22]"""

from patchrooms.blocks import room_size, split_room
from patchrooms.holes import hole_lots, load_room, loads_by, parts_by
from patchrooms.loads import need_loads
from patchrooms.patches import leads_of
from patchrooms.sums import mixed_patch
from patchrooms.tables import rank, times_table


def mixed_column(prime, one, other):
    """The column of the products of each entry of one with each entry of other."""
    return tuple([a * b % prime for a in one for b in other])


def multiplied(one, other, mixed, i, j, f, g):
    """The product of a load of the degree i of one and a load of the degree j of other."""
    prime = one[0]
    leads = leads_of(one)
    ahead = split_room(load_room(one, i), f)
    behind = split_room(load_room(other, j), g)
    told = []
    for row, many in load_room(mixed, i + j).items():
        first = row[:i + 1]
        if first not in ahead:
            told.extend([0] * many)
        elif j == 0:
            told.extend(mixed_column(prime, ahead[first], behind[row[i:]]))
        else:
            led = times_table(prime, leads[row[i], row[-1]], ahead[first])
            told.extend(mixed_column(prime, led, behind[row[i:]]))
    return tuple(told)


def product_load(one, other, i, j, f, g):
    """The load of the degree i + j of the mixed patch that is the product of the loads f and g."""
    return multiplied(one, other, mixed_patch(one, other), i, j, f, g)


def hole_loads(patch, k):
    """For each hole of the basis of the degree k a load of it."""
    return loads_by(hole_lots(patch, k), room_size(load_room(patch, k)))


def product_rank(one, other, i, j):
    """How many columns a reduced basis has of the sums of products of holes of the degrees i and j."""
    mixed = mixed_patch(one, other)
    for patch in (one, other, mixed):
        need_loads(patch)
    lots = hole_lots(mixed, i + j)
    found = []
    for f in hole_loads(one, i):
        for g in hole_loads(other, j):
            found.append(parts_by(one[0], lots, multiplied(one, other, mixed, i, j, f, g)))
    return rank(one[0], tuple(found))
