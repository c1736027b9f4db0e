"""Holes of a patch by rows, and where maps lead them. [18] to [21]"""

from patchrooms.blocks import block_table, hole_counts, long_ranks, room_size, starts_in
from patchrooms.errors import NotExact, NotHole
from patchrooms.leadings import pieces
from patchrooms.loads import every_spot, need_loads, row_border, row_room, sizes_by_rows
from patchrooms.lots import of_rest, parts_of, rest_of
from patchrooms.maps import is_exact, kernels
from patchrooms.patches import cut_patch
from patchrooms.tables import from_columns, image, kernel, rank, reduced, times_table


def load_room(patch, k):
    """The room of the loads of the degree k: its rows that have entries."""
    return row_room(patch[1], k, every_spot(patch), patch[2])


def load_border(patch, k):
    """The table that leads the loads of the degree k to their borders."""
    return row_border(patch, load_room(patch, k), load_room(patch, k + 1))


def hole_size(patch, k):
    """How many holes of the degree k a basis has."""
    need_loads(patch)
    rooms = [load_room(patch, k - 1), load_room(patch, k), load_room(patch, k + 1)]
    borders = [row_border(patch, rooms[0], rooms[1]), row_border(patch, rooms[1], rooms[2])]
    return hole_counts(patch[0], rooms, borders)[1]


def sizes_of_holes(patch):
    """The hole sizes for each degree to the height, however many loads there are."""
    return sizes_by_rows(patch, every_spot(patch))


def hole_sizes(patch):
    """The hole sizes for each degree to the height of the order."""
    need_loads(patch)
    return sizes_of_holes(patch)


def border_of(patch, k, load):
    """The border of the load of the degree k."""
    need_loads(patch)
    return times_table(patch[0], load_border(patch, k), load)


def hole_lots(patch, k):
    """The reduced bases of the borders of the degree k, and of the rests by them of loads with the border 0."""
    prime = patch[0]
    size = room_size(load_room(patch, k))
    borders = image(prime, load_border(patch, k - 1), room_size(load_room(patch, k - 1)))
    closed = kernel(prime, load_border(patch, k), size)
    rests = tuple([rest_of(prime, borders, load, size) for load in closed])
    return borders, reduced(prime, rests, size - len(borders))


def parts_by(prime, lots, load):
    """The parts, by such bases, of the rest of a load with the border 0."""
    borders, basis = lots
    return parts_of(prime, basis, rest_of(prime, borders, load, len(load)))


def loads_by(lots, size):
    """For each hole of the basis a load of it, of the size."""
    borders, basis = lots
    return [of_rest(borders, rest, size) for rest in basis]


def hole_basis(patch, k):
    """The reduced basis of the rests, by the borders, of the loads of the degree k with the border 0."""
    need_loads(patch)
    return hole_lots(patch, k)[1]


def hole_parts(patch, k, load):
    """The parts, by the hole basis, of the rest of the load, whose border is 0."""
    if any(border_of(patch, k, load)):
        raise NotHole("the border of the load is not 0")
    return parts_by(patch[0], hole_lots(patch, k), load)


def led_loads(one, other, led, k, loads):
    """What the map of one to other makes of the loads of the degree k."""
    lower, upper = load_room(one, k), load_room(other, k)
    blocks = {row: [(row, 1, led[row[-1]])] if row in lower else [] for row in upper}
    table = block_table(one[0], lower, upper, blocks)
    return [times_table(one[0], table, load) for load in loads]


def hole_table(one, other, led, k):
    """The table that leads parts of holes of one to those of what the map makes of them."""
    need_loads(one)
    need_loads(other)
    low, high = hole_lots(one, k), hole_lots(other, k)
    loads = loads_by(low, room_size(load_room(one, k)))
    columns = [parts_by(one[0], high, load) for load in led_loads(one, other, led, k, loads)]
    return from_columns(columns, len(high[1]))


def hole_rank(one, other, led, k):
    """How many columns a reduced basis has of the holes to which the map leads those of the degree k."""
    return rank(one[0], hole_table(one, other, led, k))


def kept_places(room, spots, fewer):
    """The places, in loads of the room of the patch cut to the spots, of the rows of the fewer ones."""
    starts = starts_in(room)
    kept = [row for row in room if all(spots[x] in fewer for x in row)]
    return [starts[row] + more for row in kept for more in range(room[row])]


def cut_holes(patch, spots, fewer, k, low, high):
    """The table that cuts holes of the patch over the spots to the fewer ones; low and high are their hole lots."""
    room = load_room(cut_patch(patch, spots), k)
    places = kept_places(room, spots, fewer)
    cut = [tuple([load[place] for place in places]) for load in loads_by(low, room_size(room))]
    return from_columns([parts_by(patch[0], high, load) for load in cut], len(high[1]))


def pieces_size(order):
    """How many pieces the order has."""
    return len(pieces(order))


def need_exact(one, other, third, first, second):
    """Refuse maps that are no exact row 0 to one to other to third to 0."""
    kept = not any(kernels(one, first))
    onto = all(rank(other[0], table) == size for table, size in zip(second, third[2]))
    if not kept or not onto or not is_exact(one, other, third, first, second):
        raise NotExact("the maps are no exact row")


def long_row(one, other, third, first, second):
    """For each degree the ranks of both maps and the connecting rank."""
    need_exact(one, other, third, first, second)
    for patch in (one, other, third):
        need_loads(patch)
    return long_ranks(sizes_of_holes(one), sizes_of_holes(other), sizes_of_holes(third))


def connecting_rank(one, other, third, first, second, k):
    """The rank of the way from holes of the degree k of third to those of one of a degree more."""
    ranks = long_row(one, other, third, first, second)
    return ranks[k][2] if k < len(ranks) else 0
