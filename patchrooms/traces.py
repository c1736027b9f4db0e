"""Turns of a patch, the holes they turn, and fixed spots. [46]"""

from patchrooms.blocks import room_size, split_room
from patchrooms.holes import hole_lots, load_room, loads_by, parts_by
from patchrooms.loads import need_loads
from patchrooms.signed import part_size
from patchrooms.tables import from_columns, times_table, zeros


def turned(patch, along, led, room, load):
    """What the load of the room is turned to."""
    told = split_room(room, load)
    found = ()
    for row, many in room.items():
        ahead = tuple([along[x] for x in row])
        # Spots led to one another are no row, so the room has nothing of them.
        found = found + (times_table(patch[0], led[row[-1]], told[ahead]) if ahead in told else zeros(many))
    return found


def turned_load(patch, along, led, k, load):
    """The load that tells for each row what led makes of what the load tells for the row led along."""
    need_loads(patch)
    return turned(patch, along, led, load_room(patch, k), load)


def hole_turn(patch, along, led, k):
    """The table that leads parts of holes of the degree k to those of what they are turned to."""
    need_loads(patch)
    room = load_room(patch, k)
    lots = hole_lots(patch, k)
    loads = [turned(patch, along, led, room, load) for load in loads_by(lots, room_size(room))]
    return from_columns([parts_by(patch[0], lots, load) for load in loads], len(lots[1]))


def trace(prime, table):
    """The sum of the entries from the first one of the first line to the last one of the last line."""
    return sum([line[place] for place, line in enumerate(table)]) % prime


def round_length(along, x):
    """By how many steps along the spot comes back to itself; None if it never does."""
    place = along[x]
    for steps in range(1, len(along) + 1):
        if place == x:
            return steps
        place = along[place]
    return None


def is_fixed(along, x, times):
    """Whether the spot is led to itself by so many steps."""
    steps = round_length(along, x)
    return steps is not None and times % steps == 0


def fixed_spots(along, times):
    """The spots that are led to themselves by so many steps."""
    return tuple([x for x in range(len(along)) if is_fixed(along, x, times)])


def fixed_traces(patch, along, led):
    """The count that has at each fixed spot the trace of the table there, 0 at the others."""
    return tuple([trace(patch[0], table) if along[x] == x else 0 for x, table in enumerate(led)])


def round_sizes(order, along, most):
    """For each number of steps up to most the whole size of the order of the fixed spots."""
    ones = (1,) * order[0]
    return tuple([part_size(order, ones, fixed_spots(along, times)) for times in range(1, most + 1)])
