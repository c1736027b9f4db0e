"""Sums, products and rooms of maps. [15], [16], [17]"""

from patchrooms.errors import NotFit
from patchrooms.leadings import beside_order, product_order
from patchrooms.lots import parts_of
from patchrooms.maps import entry_counts, map_space
from patchrooms.orders import up_of
from patchrooms.patches import cut_patch, lead, need_fit, need_sizes
from patchrooms.tables import from_columns, zeros
from patchrooms.tellings import cut_column


def beside_table(one, other, size, more):
    """The table that leads columns of one, with size entries a line, and behind them those of other, with more."""
    return tuple([line + zeros(more) for line in one] + [zeros(size) + line for line in other])


def sum_of(one, other):
    """The sum, whether or not its sizes are too great."""
    prime, order, sizes, tables = one
    told = []
    for (x, _), table, further in zip(order[1], tables, other[3]):
        told.append(beside_table(table, further, sizes[x], other[2][x]))
    return prime, order, tuple([a + b for a, b in zip(sizes, other[2])]), tuple(told)


def sum_patch(one, other):
    """The patch with the columns of one and behind them those of other."""
    need_fit(one, other)
    need_sizes([a + b for a, b in zip(one[2], other[2])])
    return sum_of(one, other)


def mixed_table(prime, one, other):
    """The table that leads the mixed column of two columns to that of both led."""
    return tuple([tuple([a * b % prime for a in line for b in further]) for line in one for further in other])


def mixed_patch(one, other):
    """The patch of the mixed columns."""
    need_fit(one, other)
    sizes = tuple([a * b for a, b in zip(one[2], other[2])])
    need_sizes(sizes)
    tables = [mixed_table(one[0], table, further) for table, further in zip(one[3], other[3])]
    return one[0], one[1], sizes, tuple(tables)


def maps_patch(one, other):
    """The patch of the maps of what is cut to the up set of each spot, told by parts."""
    need_fit(one, other)
    prime, order = one[0], one[1]
    upper = [up_of(order, x) for x in range(order[0])]
    bases = [map_space(cut_patch(one, spots), cut_patch(other, spots)) for spots in upper]
    sizes = tuple([len(basis) for basis in bases])
    need_sizes(sizes)
    entries = entry_counts(one, other)
    tables = []
    for x, y in order[1]:
        cut = [cut_column(entries, upper[x], upper[y], column) for column in bases[x]]
        tables.append(from_columns([parts_of(prime, bases[y], column) for column in cut], sizes[y]))
    return prime, order, sizes, tuple(tables)


def need_prime(one, other):
    """Refuse patches over unlike primes."""
    if one[0] != other[0]:
        raise NotFit("the primes are unlike")


def outer_patch(one, other):
    """The patch of the mixed columns over the product of both orders."""
    need_prime(one, other)
    order = product_order(one[1], other[1])
    sizes = tuple([a * b for a in one[2] for b in other[2]])
    need_sizes(sizes)
    m = other[1][0]
    tables = []
    for low, high in order[1]:
        first, second = lead(one, low // m, high // m), lead(other, low % m, high % m)
        tables.append(mixed_table(one[0], first, second))
    return one[0], order, sizes, tuple(tables)


def beside_patch(one, other):
    """The patch over both orders beside one another."""
    need_prime(one, other)
    order = beside_order(one[1], other[1])
    need_sizes(one[2] + other[2])
    return one[0], order, one[2] + other[2], one[3] + other[3]
