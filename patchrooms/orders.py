"""Small orders, their rows and spot sets. [5], [6]"""

from patchrooms.errors import NotOrder, TooMany
from patchrooms.kinds import is_whole, is_wholes

MOST_SPOTS = 16
MOST_UPS = 1000


def need_spots(many):
    """Refuse an order with too many spots."""
    if many > MOST_SPOTS:
        raise TooMany(MOST_SPOTS)


def is_ascending(value):
    """Whether each entry is less than the next one."""
    return all(value[k] < value[k + 1] for k in range(len(value) - 1))


def is_pair(value, n):
    """Whether the value is a pair of unlike spots."""
    return is_wholes(value, 2, 0, n - 1) and value[0] != value[1]


def has_order_form(value):
    """Whether the value is a number of spots and an ascending tuple of pairs of unlike ones."""
    if not isinstance(value, tuple) or len(value) != 2:
        return False
    n, pairs = value
    if not is_whole(n, 0, MOST_SPOTS) or not isinstance(pairs, tuple):
        return False
    return all(is_pair(pair, n) for pair in pairs) and is_ascending(pairs)


def is_chained(pairs):
    """Whether (x, z) is among the pairs wherever (x, y) and (y, z) are."""
    known = set(pairs)
    for x, y in pairs:
        for y_again, z in pairs:
            if y == y_again and (x, z) not in known:
                return False
    return True


def need_order(value):
    """The value, which is an order."""
    if not has_order_form(value):
        raise NotOrder("form")
    # A pair (x, x) is never among them here, so (x, y) and (y, x) break this, too.
    if not is_chained(value[1]):
        raise NotOrder("chain")
    return value


def order_of(n, pairs):
    """The least order of n spots with all the pairs."""
    given = set(pairs)
    reach = [[(x, y) in given for y in range(n)] for x in range(n)]
    for middle in range(n):
        for low in range(n):
            if reach[low][middle]:
                reach[low] = [reach[low][z] or reach[middle][z] for z in range(n)]
    if any(reach[x][x] for x in range(n)):
        raise NotOrder("chain")
    return n, tuple([(x, y) for x in range(n) for y in range(n) if reach[x][y]])


def covers_of(order):
    """The pairs without a spot between, ascending."""
    known = set(order[1])
    spots = range(order[0])
    return tuple([(x, z) for x, z in order[1] if not any([(x, y) in known and (y, z) in known for y in spots])])


def upside_down(order):
    """The order with each pair turned about."""
    return order[0], tuple(sorted([(y, x) for x, y in order[1]]))


def part_order(order, spots):
    """The order of these spots, numbered anew in sequence."""
    numbers = {spot: number for number, spot in enumerate(spots)}
    pairs = [(numbers[x], numbers[y]) for x, y in order[1] if x in numbers and y in numbers]
    return len(spots), tuple(pairs)


def above_all(order):
    """For each spot the ascending tuple of the spots above it."""
    return [tuple([y for below, y in order[1] if below == x]) for x in range(order[0])]


def rows(order, k):
    """All rows of the length k, ascending."""
    above = above_all(order)
    found = [(x,) for x in range(order[0])]
    for _ in range(k):
        found = [row + (y,) for row in found for y in above[row[-1]]]
    return tuple(found)


def height(order):
    """The greatest length of a row, -1 if there is no spot."""
    length = -1
    ends = list(range(order[0]))
    while ends:
        length += 1
        # A spot ends a row of one length more exactly if it is above an end of this length.
        ends = sorted({y for x, y in order[1] if x in ends})
    return length


def up_of(order, x):
    """The up set of the spot and all spots above it."""
    return tuple(sorted([x] + [y for below, y in order[1] if below == x]))


def down_of(order, x):
    """The down set of the spot and all spots below it."""
    return tuple(sorted([x] + [y for y, above in order[1] if above == x]))


def is_spot_set(order, value):
    """Whether the value of any kind is an ascending tuple of spots."""
    if not isinstance(value, tuple) or not is_wholes(value, len(value), 0, order[0] - 1):
        return False
    return is_ascending(value)


def is_up(order, spots):
    """Whether the spot set has with each spot all above it."""
    return all(y in spots for x, y in order[1] if x in spots)


def ups(order):
    """All up sets, ascending."""
    above = above_all(order)
    found = [()]
    # Spots come behind all spots above them, so each set found on the way is itself an up set.
    for x in sorted(range(order[0]), key=lambda spot: len(above[spot])):
        found = found + [spots + (x,) for spots in found if all(y in spots for y in above[x])]
        if len(found) > MOST_UPS:
            raise TooMany(MOST_UPS)
    return tuple(sorted([tuple(sorted(spots)) for spots in found]))


def up_hull(order, spots):
    """The least up set with all these spots."""
    return tuple(sorted(set(list(spots) + [y for x, y in order[1] if x in spots])))
