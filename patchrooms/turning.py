"""Maps along a leading, turned over from what is moved back to what is moved on. [36]"""

from patchrooms.lots import of_parts, parts_of, rest_of
from patchrooms.moved import (back_patch, forward_patch, free_columns, gathered_patch, led_above,
                              lower_lots, sizes_over, split_at_spots, spread, upper_bases)
from patchrooms.patches import lead
from patchrooms.tables import from_columns, times_table, unit


def forward_turn(g, f, along, led):
    """The map of g to f moved forward that leads a column to what led makes of its leads."""
    prime, other = g[0], g[1]
    back_patch(g, f[1], along)
    forward_patch(f, other, along)
    bases = upper_bases(f, other, along)
    tables = []
    for y in range(other[0]):
        spots = led_above(other, along, y)
        columns = []
        for place in range(g[2][y]):
            column = unit(g[2][y], place)
            ahead = {x: times_table(prime, lead(g, y, along[x]), column) for x in spots}
            told = {x: times_table(prime, led[x], part) for x, part in ahead.items()}
            columns.append(parts_of(prime, bases[y], spread(f, spots, told)))
        tables.append(from_columns(columns, len(bases[y])))
    return tuple(tables)


def back_turn(g, f, along, led):
    """The map of g moved back to f that tells at each spot what the telling there tells."""
    prime, other = g[0], g[1]
    back_patch(g, f[1], along)
    forward_patch(f, other, along)
    bases = upper_bases(f, other, along)
    tables = []
    for x, y in enumerate(along):
        spots = led_above(other, along, y)
        columns = []
        for place in range(g[2][y]):
            parts = times_table(prime, led[y], unit(g[2][y], place))
            telling = of_parts(prime, bases[y], parts, sizes_over(f, spots))
            columns.append(split_at_spots(f, spots, telling)[x])
        tables.append(from_columns(columns, f[2][x]))
    return tuple(tables)


def summed(prime, size, columns):
    """The sum of the columns of the size."""
    return tuple([sum([column[place] for column in columns]) % prime for place in range(size)])


def gathered_turn(f, g, along, led):
    """The map of f gathered to g that leads columns to the sum of what led makes of each, led on."""
    prime, other = g[0], g[1]
    back_patch(g, f[1], along)
    gathered_patch(f, other, along)
    tables = []
    for y, (spots, lot) in enumerate(lower_lots(f, other, along)):
        columns = []
        for column in free_columns(f, spots, lot):
            told = split_at_spots(f, spots, column)
            made = {x: times_table(prime, led[x], part) for x, part in told.items()}
            columns.append(summed(prime, g[2][y], [times_table(prime, lead(g, along[x], y), made[x]) for x in spots]))
        tables.append(from_columns(columns, g[2][y]))
    return tuple(tables)


def apart_turn(f, g, along, led):
    """The map of f to g moved back that leads a column to what led makes of it alone."""
    prime, other = g[0], g[1]
    back_patch(g, f[1], along)
    gathered_patch(f, other, along)
    lower = lower_lots(f, other, along)
    tables = []
    for x, y in enumerate(along):
        spots, lot = lower[y]
        columns = []
        for place in range(f[2][x]):
            alone = spread(f, spots, {x: unit(f[2][x], place)})
            columns.append(times_table(prime, led[y], rest_of(prime, lot, alone, len(alone))))
        tables.append(from_columns(columns, g[2][y]))
    return tuple(tables)
