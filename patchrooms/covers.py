"""Covers by up sets, their loads, and holes by them. [23] to [26]"""

from itertools import combinations

from patchrooms.blocks import block_table, filled, hole_counts, long_ranks, room_size, sign_of
from patchrooms.errors import NotCover, TooMany
from patchrooms.holes import hole_lots, load_room, parts_by, sizes_of_holes
from patchrooms.loads import MOST_LOADS, need_loads, without
from patchrooms.lots import parts_of
from patchrooms.orders import height, is_spot_set, is_up, up_of
from patchrooms.patches import cut_patch
from patchrooms.tables import from_columns, kernel, rank, times_table
from patchrooms.tellings import cut_telling, tellings

MOST_UP_SETS = 5


def need_cover(order, value):
    """The value, which is a cover of the order."""
    if not isinstance(value, tuple) or not 1 <= len(value) <= MOST_UP_SETS:
        raise NotCover(-1)
    for place, spots in enumerate(value):
        if not is_spot_set(order, spots) or not is_up(order, spots):
            raise NotCover(place)
    if any(not any(x in part for part in value) for x in range(order[0])):
        raise NotCover(len(value))
    return value


def lots_of(cover, many):
    """The lots of so many numbers of up sets, ascending."""
    return list(combinations(range(len(cover)), many))


def all_lots(cover):
    """The lots of at least one number, shortest first, each length ascending."""
    return [lot for many in range(1, len(cover) + 1) for lot in lots_of(cover, many)]


def share_of(cover, lot):
    """The spots that all up sets of the lot share."""
    return tuple([x for x in cover[lot[0]] if all(x in cover[number] for number in lot)])


def shares_of(cover):
    """What each lot of numbers shares."""
    return {lot: share_of(cover, lot) for lot in all_lots(cover)}


def cover_bases(patch, cover):
    """For each lot of numbers the reduced basis of the tellings on what it shares; refused if they are too many."""
    bases = {lot: tellings(patch, spots) for lot, spots in shares_of(cover).items()}
    for many in range(1, len(cover) + 1):
        if sum([len(bases[lot]) for lot in lots_of(cover, many)]) > MOST_LOADS:
            raise TooMany(MOST_LOADS)
    return bases


def basis_room(cover, bases, k):
    """The room of the loads of the degree k: for each lot the parts by its basis."""
    return {lot: len(bases[lot]) for lot in lots_of(cover, k + 1)}


def cut_basis(patch, spots, fewer, basis, lesser):
    """The table that leads parts by the basis to the parts, by the lesser one, of what is told on fewer spots."""
    columns = [parts_of(patch[0], lesser, cut_telling(patch, spots, fewer, telling)) for telling in basis]
    return from_columns(columns, len(lesser))


def lot_border(prime, lower, upper, cuts):
    """The table that leads loads on the lots lower to their borders on the lots upper, each longer by one.

    For each pair of lots cuts tells the table from what the first one shares to what the second one shares.
    """
    blocks = {}
    for lot in upper:
        fewer = [without(lot, j) for j in range(len(lot))]
        blocks[lot] = [(low, sign_of(j), cuts[low, lot]) for j, low in enumerate(fewer)]
    return block_table(prime, lower, upper, blocks)


def cover_table(patch, cover, bases, k):
    """The table that leads the loads of the degree k of the cover to their borders."""
    lower, upper = basis_room(cover, bases, k), basis_room(cover, bases, k + 1)
    shares = shares_of(cover)
    cuts = {}
    for lot in upper:
        for j in range(len(lot)):
            low = without(lot, j)
            cuts[low, lot] = cut_basis(patch, shares[low], shares[lot], bases[low], bases[lot])
    return lot_border(patch[0], lower, upper, cuts)


def cover_hole_sizes(patch, cover):
    """The sizes of the holes by the loads of the cover, for each degree."""
    bases = cover_bases(patch, cover)
    rooms = [basis_room(cover, bases, k) for k in range(len(cover))]
    borders = [cover_table(patch, cover, bases, k) for k in range(len(cover) - 1)]
    return hole_counts(patch[0], rooms, borders)


def cover_border(patch, cover, k, load):
    """The border of a load of the degree k of the cover."""
    return times_table(patch[0], cover_table(patch, cover, cover_bases(patch, cover), k), load)


def sorting_sign(numbers):
    """1 or -1, by how many exchanges of neighbours put unlike numbers in ascending sequence; 0 if two are the same."""
    if len(set(numbers)) < len(numbers):
        return 0
    return sign_of(sum([1 for low, high in combinations(numbers, 2) if low > high]))


def least_numbers(order, cover):
    """For each spot the least number of an up set of the cover that has it."""
    return [[number for number, spots in enumerate(cover) if x in spots][0] for x in range(order[0])]


def rows_table(patch, cover, bases, k):
    """The table that leads loads of the degree k of the cover to the loads by rows that they make."""
    numbers = least_numbers(patch[1], cover)
    shares = shares_of(cover)
    upper = load_room(patch, k)
    blocks = {}
    for row in upper:
        found = [numbers[x] for x in row]
        lot = tuple(sorted(found))
        blocks[row] = []
        if sorting_sign(found) != 0:
            columns = [cut_telling(patch, shares[lot], row[-1:], telling) for telling in bases[lot]]
            blocks[row].append((lot, sorting_sign(found), from_columns(columns, upper[row])))
    return block_table(patch[0], basis_room(cover, bases, k), upper, blocks)


def load_by_rows(patch, cover, k, load):
    """The load of the degree k by rows that a load of the cover makes."""
    bases = cover_bases(patch, cover)
    need_loads(patch)
    return times_table(patch[0], rows_table(patch, cover, bases, k), load)


def cover_rank(patch, cover, k):
    """How many columns a reduced basis has of the holes by rows that the holes of the degree k of the cover make."""
    bases = cover_bases(patch, cover)
    need_loads(patch)
    prime = patch[0]
    size = room_size(basis_room(cover, bases, k))
    table = rows_table(patch, cover, bases, k)
    lots = hole_lots(patch, k)
    closed = kernel(prime, cover_table(patch, cover, bases, k), size)
    return rank(prime, tuple([parts_by(prime, lots, times_table(prime, table, load)) for load in closed]))


def is_good(patch, cover):
    """Whether what any up sets of the cover share has no holes above the degree 0."""
    need_loads(patch)
    return not any(any(sizes_of_holes(cut_patch(patch, spots))[1:]) for spots in shares_of(cover).values())


def least_cover(order):
    """The up sets of the spots below which there is no spot."""
    highs = [y for _, y in order[1]]
    lows = [x for x in range(order[0]) if x not in highs]
    if len(lows) > MOST_UP_SETS:
        raise TooMany(MOST_UP_SETS)
    return tuple([up_of(order, x) for x in lows]) if lows else ((),)


def pair_ranks(patch, one, other):
    """For each degree the ranks of the ways to both cuts, to the cut to what they share, and on."""
    order = patch[1]
    if any(x not in one and x not in other for x in range(order[0])):
        raise NotCover(2)
    need_loads(patch)
    shared = share_of((one, other), (0, 1))
    many = height(order) + 1
    first, second, both = [filled(sizes_of_holes(cut_patch(patch, spots)), many) for spots in (one, other, shared)]
    return long_ranks(sizes_of_holes(patch), [a + b for a, b in zip(first, second)], both)
