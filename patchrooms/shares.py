"""What the up sets of a cover share: tables of holes, the order of shares, finer covers. [27], [28]"""

from patchrooms.blocks import block_table, filled, hole_counts, room_size
from patchrooms.covers import (all_lots, basis_room, cover_bases, cover_table, cut_basis, lot_border, lots_of,
                               shares_of, sorting_sign)
from patchrooms.errors import NotFiner
from patchrooms.holes import cut_holes, hole_lots, sizes_of_holes
from patchrooms.loads import need_loads, without
from patchrooms.lots import rest_of
from patchrooms.orders import height, need_spots
from patchrooms.patches import cut_patch
from patchrooms.tables import image, kernel, rank, times_table


def shared_sizes(patch, cover):
    """For each degree j and each k the hole sizes j of all shares of k + 1 up sets together."""
    need_loads(patch)
    many = height(patch[1]) + 1
    shares = shares_of(cover)
    sizes = {spots: filled(sizes_of_holes(cut_patch(patch, spots)), many) for spots in shares.values()}
    lots = [lots_of(cover, k + 1) for k in range(len(cover))]
    found = []
    for j in range(many):
        found.append(tuple([sum([sizes[shares[lot]][j] for lot in part]) for part in lots]))
    return tuple(found)


def cut_tables(patch, shares, lots, j):
    """For each pair of a lot of numbers and one of a number more the table that cuts holes of the degree j."""
    known = {}
    cuts = {}
    longer = [lot for lot in shares if len(lot) > 1]
    for lot in longer:
        for low in [without(lot, place) for place in range(len(lot))]:
            # Many lots may share the same spots, of which the holes are cut once.
            pair = (shares[low], shares[lot])
            if pair not in known:
                known[pair] = cut_holes(patch, pair[0], pair[1], j, lots[pair[0]], lots[pair[1]])
            cuts[low, lot] = known[pair]
    return cuts


def second_row(patch, cover, j):
    """The sizes of the holes of loads that tell for each lot of numbers a hole of the degree j."""
    shares = shares_of(cover)
    lots = {}
    for spots in shares.values():
        if spots not in lots:
            lots[spots] = hole_lots(cut_patch(patch, spots), j)
    cuts = cut_tables(patch, shares, lots, j)
    rooms = []
    for many in range(1, len(cover) + 1):
        rooms.append({lot: len(lots[shares[lot]][1]) for lot in lots_of(cover, many)})
    borders = [lot_border(patch[0], rooms[k], rooms[k + 1], cuts) for k in range(len(cover) - 1)]
    return hole_counts(patch[0], rooms, borders)


def second_sizes(patch, cover):
    """For each degree j and each k the sizes of the holes of loads of holes of the degree j."""
    need_loads(patch)
    return tuple([second_row(patch, cover, j) for j in range(height(patch[1]) + 1)])


def nerve_order(order, cover):
    """The order of the lots of numbers whose up sets share a spot, each below the longer ones with its numbers."""
    shares = shares_of(cover)
    spots = [lot for lot in all_lots(cover) if shares[lot]]
    need_spots(len(spots))
    pairs = []
    for low, lot in enumerate(spots):
        for high, longer in enumerate(spots):
            if len(lot) < len(longer) and all(number in longer for number in lot):
                pairs.append((low, high))
    return len(spots), tuple(pairs)


def holders(one, other):
    """For each up set of one the numbers of the up sets of other that have it."""
    return [[number for number, wide in enumerate(other) if all(x in wide for x in spots)] for spots in one]


def is_finer(order, one, other):
    """Whether each up set of the cover one is part of some up set of the cover other."""
    return all(holders(one, other))


def finer_table(patch, one, other, bases, wides, k):
    """The table that leads loads of the degree k of the cover other, by wides, to those of one, by bases."""
    numbers = [held[0] for held in holders(one, other)]
    shares, wide_shares = shares_of(one), shares_of(other)
    upper = basis_room(one, bases, k)
    blocks = {}
    for lot in upper:
        found = [numbers[number] for number in lot]
        wide = tuple(sorted(found))
        blocks[lot] = []
        if sorting_sign(found) != 0:
            table = cut_basis(patch, wide_shares[wide], shares[lot], wides[wide], bases[lot])
            blocks[lot].append((wide, sorting_sign(found), table))
    return block_table(patch[0], basis_room(other, wides, k), upper, blocks)


def cover_borders(patch, cover, bases, k):
    """The reduced basis of the borders of the degree k of the cover."""
    if k == 0:
        return ()
    return image(patch[0], cover_table(patch, cover, bases, k - 1), room_size(basis_room(cover, bases, k - 1)))


def finer_rank(patch, one, other, k):
    """The rank of the way that leads holes of the degree k of the cover other to those of the cover one."""
    if not is_finer(patch[1], one, other):
        raise NotFiner("some up set of one is part of no up set of other")
    bases, wides = cover_bases(patch, one), cover_bases(patch, other)
    prime = patch[0]
    size = room_size(basis_room(one, bases, k))
    borders = cover_borders(patch, one, bases, k)
    table = finer_table(patch, one, other, bases, wides, k)
    closed = kernel(prime, cover_table(patch, other, wides, k), room_size(basis_room(other, wides, k)))
    return rank(prime, tuple([rest_of(prime, borders, times_table(prime, table, load), size) for load in closed]))
