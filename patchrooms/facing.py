"""Facing patches, and round orders that face one way. [42], [43]"""

from patchrooms.blocks import room_size
from patchrooms.duals import is_round
from patchrooms.errors import NotRound
from patchrooms.holes import hole_lots, hole_size, led_loads, load_room, loads_by, parts_by, pieces_size
from patchrooms.loads import need_loads
from patchrooms.patches import level_patch, need_sizes, springing
from patchrooms.tables import still_table


def facing_patch(prime, order, k):
    """The patch that has at each spot the holes of the degree k of its springing patch, turned about."""
    need_loads(level_patch(prime, order, 1))
    springs = [springing(prime, order, x) for x in range(order[0])]
    lots = [hole_lots(spring, k) for spring in springs]
    sizes = tuple([len(basis) for _, basis in lots])
    need_sizes(sizes)
    loads = [loads_by(lot, room_size(load_room(spring, k))) for lot, spring in zip(lots, springs)]
    # Where the springing patch of y has no entries its loads have no rows, so no other table is needed there.
    into = (still_table(1),) * order[0]
    tables = []
    for x, y in order[1]:
        led = led_loads(springs[y], springs[x], into, k, loads[y])
        # The columns of the way from y to x are the lines of the lead from x to y.
        tables.append(tuple([parts_by(prime, lots[x], load) for load in led]))
    return prime, order, sizes, tuple(tables)


def faces_one_way(prime, order, d):
    """Whether the facing patch of the degree d, of an order round of it, is the same as the level one."""
    if not is_round(prime, order, d):
        raise NotRound("the order is not round of the degree")
    # The level patch has a hole of the degree d for each piece on which its facing patch is the same as it.
    return hole_size(level_patch(prime, order, 1), d) == pieces_size(order)
