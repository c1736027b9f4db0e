"""Tables made of blocks, and how many holes such tables leave.

A room is a dict that tells for each of its keys, in sequence, how many entries stand there.
"""

from patchrooms.tables import rank


def sign_of(j):
    """1 or -1, by j."""
    return 1 if j % 2 == 0 else -1


def power(base, times):
    """The base, so many times multiplied."""
    found = 1
    for _ in range(times):
        found = found * base
    return found


def room_size(room):
    """How many entries the room has."""
    return sum(room.values())


def starts_in(room):
    """For each key the place at which its entries begin, keys being written one behind the other."""
    starts = {}
    place = 0
    for key, many in room.items():
        starts[key] = place
        place += many
    return starts


def split_room(room, column):
    """What a column of the room tells at each key."""
    starts = starts_in(room)
    return {key: column[starts[key]:starts[key] + many] for key, many in room.items()}


def block_lines(prime, size, many, blocks):
    """So many lines of the size: the sum of factor times table, from its place on, for each block."""
    found = [[0] * size for _ in range(many)]
    for place, factor, table in blocks:
        for at, entries in enumerate(table):
            for more, entry in enumerate(entries):
                found[at][place + more] = (found[at][place + more] + factor * entry) % prime
    return [tuple(line) for line in found]


def block_table(prime, lower, upper, blocks):
    """The table that leads columns of the room lower to those of the room upper.

    To each key of upper leads the sum of factor times table over its blocks (key of lower, factor, table).
    """
    starts = starts_in(lower)
    size = room_size(lower)
    lines = []
    for key, many in upper.items():
        placed = [(starts[low], factor, table) for low, factor, table in blocks[key]]
        lines.extend(block_lines(prime, size, many, placed))
    return tuple(lines)


def hole_counts(prime, rooms, borders):
    """For each room the loads that the border behind it leads to zeros, less those that the one ahead makes.

    There is a border from each room to the next one.
    """
    ranks = [0] + [rank(prime, table) for table in borders] + [0]
    return tuple([room_size(room) - ranks[k] - ranks[k + 1] for k, room in enumerate(rooms)])


def long_ranks(firsts, seconds, thirds):
    """The ranks in a long row of holes of these sizes, three for each degree."""
    # The row begins with 0, and each rank and the next one add up to the size between.
    found = []
    taken = 0
    for first, second, third in zip(firsts, seconds, thirds):
        one = first - taken
        two = second - one
        taken = third - two
        found.append((one, two, taken))
    return tuple(found)


def filled(sizes, many):
    """The sizes with zeros behind them, so many in all."""
    return sizes + (0,) * (many - len(sizes))
