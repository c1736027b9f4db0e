"""Way rows: patches over places in a line, with ways to and fro. [47], [48]"""

from patchrooms.errors import NotFit, NotRow, TooMany
from patchrooms.kinds import is_prime, is_table, is_whole, is_wholes
from patchrooms.maps import rest_table
from patchrooms.orders import order_of
from patchrooms.patches import MOST_AT_A_SPOT, need_in_all
from patchrooms.sums import beside_table
from patchrooms.tables import behind_table, columns_of, kernel, reduced, still_table, times_table

MOST_PLACES = 10


def has_row_form(value):
    """Whether the value is a way row, aside from the single ways."""
    if not isinstance(value, tuple) or len(value) != 3:
        return False
    prime, sizes, ways = value
    if not is_prime(prime) or not isinstance(sizes, tuple) or not isinstance(ways, tuple):
        return False
    if not is_wholes(sizes, len(sizes), 0, MOST_AT_A_SPOT):
        return False
    return 1 <= len(sizes) <= MOST_PLACES and len(ways) == len(sizes) - 1


def way_ends(toward, place):
    """From which place to which one the way of this index leads."""
    return (place, place + 1) if toward == 1 else (place + 1, place)


def is_way(prime, sizes, place, value):
    """Whether the value is a way of this index."""
    if not isinstance(value, tuple) or len(value) != 2:
        return False
    toward, table = value
    if not is_whole(toward, -1, 1) or toward == 0:
        return False
    low, high = way_ends(toward, place)
    return is_table(prime, table, sizes[high], sizes[low])


def need_way_row(value):
    """The value, which is a way row."""
    if not has_row_form(value):
        raise NotRow(-1)
    for place, way in enumerate(value[2]):
        if not is_way(value[0], value[1], place, way):
            raise NotRow(place)
    return value


def towards_of(row):
    """The direction of each way."""
    return tuple([toward for toward, _ in row[2]])


def need_rows_fit(one, other):
    """Refuse way rows with unlike primes, numbers of places or directions of ways."""
    # There are as many places as ways and one more, so unlike numbers of places are seen here, too.
    if one[0] != other[0] or towards_of(one) != towards_of(other):
        raise NotFit("the primes, numbers of places or directions of ways are unlike")


def carried(row, place, lot):
    """What of the next place belongs to a lot of columns at the place: led there, or led from there into the lot."""
    prime, sizes, ways = row
    toward, table = ways[place]
    if toward == 1:
        return reduced(prime, tuple([times_table(prime, table, column) for column in lot]), sizes[place + 1])
    return kernel(prime, rest_table(prime, table, sizes[place + 1], sizes[place], (), lot), sizes[place + 1])


def ranks_from(row, i):
    """For each place from i on how many stretches have all places from i to it."""
    # Of the tellings from i on those that a place is told by, less those of them that tell zeros at i.
    told, lost = still_table(row[1][i]), ()
    ranks = [len(told)]
    for place in range(i, len(row[2])):
        told, lost = carried(row, place, told), carried(row, place, lost)
        ranks.append(len(told) - len(lost))
    return ranks


def through_rank(row, i, j):
    """How many stretches of the row have all places from i to j."""
    return ranks_from(row, i)[j - i]


def stretches(row):
    """The stretches of which the row is the sum, each with its first and last place and how often it stands."""
    places = range(len(row[1]))
    ranks = {(i, i + more): many for i in places for more, many in enumerate(ranks_from(row, i))}
    found = []
    for i in places:
        for j in range(i, len(row[1])):
            wider = ranks.get((i - 1, j), 0) + ranks.get((i, j + 1), 0) - ranks.get((i - 1, j + 1), 0)
            if ranks[i, j] > wider:
                found.append((i, j, ranks[i, j] - wider))
    return tuple(found)


def table_along(row, low, high):
    """The table that leads from a place to another one along ways that all lead so."""
    prime, sizes, ways = row
    passed = list(range(low, high)) if low < high else list(range(low - 1, high - 1, -1))
    table = still_table(sizes[low])
    for place in passed:
        table = behind_table(prime, table, ways[place][1], sizes[low])
    return table


def row_patch(row):
    """The patch over the order of the places in which neighbours are below and above as their way goes."""
    need_in_all(row[1])
    pairs = [way_ends(toward, place) for place, toward in enumerate(towards_of(row))]
    order = order_of(len(row[1]), tuple(pairs))
    return row[0], order, row[1], tuple([table_along(row, low, high) for low, high in order[1]])


def sum_row(one, other):
    """The way row that has at each place the columns of one and behind them those of other."""
    need_rows_fit(one, other)
    sizes = tuple([a + b for a, b in zip(one[1], other[1])])
    if max(sizes) > MOST_AT_A_SPOT:
        raise TooMany(MOST_AT_A_SPOT)
    ways = []
    for place, toward in enumerate(towards_of(one)):
        low = way_ends(toward, place)[0]
        ways.append((toward, beside_table(one[2][place][1], other[2][place][1], one[1][low], other[1][low])))
    return one[0], sizes, tuple(ways)


def dual_row(row):
    """The way row with all ways turned about, lines and entries of their tables exchanged."""
    ways = []
    for place, (toward, table) in enumerate(row[2]):
        ways.append((-toward, columns_of(table, row[1][way_ends(toward, place)[0]])))
    return row[0], row[1], tuple(ways)


def cut_row(row, i, j):
    """The way row of the places from i to j, numbered anew."""
    return row[0], row[1][i:j + 1], row[2][i:j]
