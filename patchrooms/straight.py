"""Way rows made straight, and the maps between them. [49], [50]

A chain is a pair: the first place of a stretch, and a column for each place from there on, each led to the next one.
"""

from patchrooms.errors import TooMany
from patchrooms.kinds import is_table
from patchrooms.patches import MOST_AT_A_SPOT
from patchrooms.tables import (
    behind_table, columns_of, from_columns, kernel, less_times, rank, reduced, solved, still_table, times_table,
    turned_back, unit, zeros)
from patchrooms.wayrows import need_rows_fit, stretches, towards_of, way_ends


def straight_row(prime, towards, lot):
    """The way row that is the sum of the stretches, each as often as is told."""
    places = range(len(towards) + 1)
    sizes = tuple([sum([times for i, j, times in lot if i <= place <= j]) for place in places])
    if max(sizes) > MOST_AT_A_SPOT:
        raise TooMany(MOST_AT_A_SPOT)
    ways = []
    for place, toward in enumerate(towards):
        low, high = way_ends(toward, place)
        ways.append((toward, straight_table(lot, low, high, sizes[low])))
    return prime, sizes, tuple(ways)


def entries_at(lot, place):
    """The entries at a place: the stretches that have it, each with which one of its times it is."""
    return [(i, j, at) for i, j, times in lot if i <= place <= j for at in range(times)]


def straight_table(lot, low, high, size):
    """The table from the place low to its neighbour high that leads each entry to that of the same stretch."""
    ahead = entries_at(lot, low)
    lines = []
    for entry in entries_at(lot, high):
        lines.append(unit(size, ahead.index(entry)) if entry in ahead else zeros(size))
    return tuple(lines)


def is_straightening(row, value):
    """Whether the value is a tuple of tables that can be turned back and make the row straight."""
    prime, sizes, ways = row
    if not isinstance(value, tuple) or len(value) != len(sizes):
        return False
    for size, table in zip(sizes, value):
        if not is_table(prime, table, size, size) or turned_back(prime, table) is None:
            return False
    straight = straight_row(prime, towards_of(row), stretches(row))
    for place, (toward, table) in enumerate(ways):
        low, high = way_ends(toward, place)
        behind = behind_table(prime, table, value[high], sizes[low])
        if behind != behind_table(prime, value[low], straight[2][place][1], sizes[low]):
            return False
    return True


def chain_less(prime, chain, factor, other):
    """The chain less factor times the other one at all places that it shares with it."""
    start, columns = chain
    found = []
    for more, column in enumerate(columns):
        place = start + more
        found.append(less_times(prime, column, factor, other[1][place - other[0]]) if place >= other[0] else column)
    return start, tuple(found)


def chain_less_all(prime, chain, factors, others):
    """The chain less all the others, each times its factor."""
    found = chain
    for factor, other in zip(factors, others):
        found = chain_less(prime, found, factor, other)
    return found


def chain_led(chain, column):
    """The chain with a column for one place more."""
    return chain[0], chain[1] + (column,)


def born(prime, columns, size, place):
    """Chains that begin at the place, and with the columns make up all columns of the size."""
    found = list(columns)
    chains = []
    for at in range(size):
        if rank(prime, tuple(found) + (unit(size, at),)) > len(found):
            found.append(unit(size, at))
            chains.append((place, (unit(size, at),)))
    return chains


def led_forward(row, place, chains):
    """The chains that end at the place of a forward way, and those that go on behind it."""
    prime, sizes, ways = row
    ended, going, images = [], [], []
    # A chain may be changed by those behind it in the sequence, so the last ones are led first.
    for chain in reversed(chains):
        led = times_table(prime, ways[place][1], chain[1][-1])
        factors = solved(prime, from_columns(images, sizes[place + 1]), len(images), led)
        if factors is None:
            going = [chain_led(chain, led)] + going
            images = [led] + images
        else:
            ended.append(chain_less_all(prime, chain, factors, going))
    return ended, born(prime, images, sizes[place + 1], place + 1) + going


def led_backward(row, place, chains):
    """The chains that end at the place to which a backward way leads, and those that go on behind it."""
    prime, sizes, ways = row
    table, more = ways[place][1], sizes[place + 1]
    told = turned_back(prime, from_columns([columns[-1] for _, columns in chains], sizes[place]))
    parts = [times_table(prime, told, column) for column in columns_of(table, more)]
    lots = reduced(prime, tuple(parts), len(chains))
    leads = [lot.index(1) for lot in lots]
    going = []
    for at, lot in zip(leads, lots):
        # Each lot begins with its own chain; what stands behind may be added to it.
        opposite = [-factor for factor in lot[at + 1:]]
        chain = chain_less_all(prime, chains[at], opposite, chains[at + 1:])
        going.append(chain_led(chain, solved(prime, table, more, chain[1][-1])))
    ended = [chain for at, chain in enumerate(chains) if at not in leads]
    return ended, going + [(place + 1, (column,)) for column in kernel(prime, table, more)]


def chains_of(row):
    """Chains of which the row is the sum, by their first and last places."""
    # Chains stand in such a sequence that each can be mapped into those behind it: those that begin behind a
    # forward way ahead of all others, those that begin behind a backward way behind them.
    ended, chains = [], [(0, (column,)) for column in still_table(row[1][0])]
    for place, toward in enumerate(towards_of(row)):
        less, chains = led_forward(row, place, chains) if toward == 1 else led_backward(row, place, chains)
        ended = ended + less
    return sorted(ended + chains, key=lambda chain: (chain[0], len(chain[1])))


def straightened(row):
    """A tuple of tables that can be turned back and make the row straight."""
    prime, sizes, _ = row
    chains = chains_of(row)
    tables = []
    for place, size in enumerate(sizes):
        columns = [part[place - start] for start, part in chains if start <= place < start + len(part)]
        tables.append(turned_back(prime, from_columns(columns, size)))
    return tuple(tables)


def stretch_maps(towards, one, other):
    """The size of the lot of maps of the stretch one to the stretch other."""
    low, high = max(one[0], other[0]), min(one[1], other[1])
    if low > high:
        return 0
    # Where one goes on alone, it must be left along the way; where other does, it must not be led into.
    wrong = [one[0] < low and towards[low - 1] == 1, other[0] < low and towards[low - 1] == -1,
             one[1] > high and towards[high] == -1, other[1] > high and towards[high] == 1]
    return 0 if any(wrong) else 1


def row_maps_size(one, other):
    """The size of the lot of maps of one way row to another one."""
    need_rows_fit(one, other)
    towards = towards_of(one)
    total = 0
    for i, j, times in stretches(one):
        for more_i, more_j, more in stretches(other):
            total += times * more * stretch_maps(towards, (i, j), (more_i, more_j))
    return total


def row_ways_size(one, other):
    """The size of the lot of ways of the degree 1 from one way row to another one."""
    size = row_maps_size(one, other) - sum([a * b for a, b in zip(one[1], other[1])])
    for place, toward in enumerate(towards_of(one)):
        low, high = way_ends(toward, place)
        size += one[1][low] * other[1][high]
    return size
