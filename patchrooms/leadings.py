"""Leadings of orders, orders put together, loose spots and pieces. [7], [8]"""

from patchrooms.errors import NotLeading
from patchrooms.kinds import is_wholes
from patchrooms.orders import height, need_spots, part_order, rows


def need_leading(one, other, value):
    """The value, which is a leading of the order one to the order other."""
    if not is_wholes(value, one[0], 0, other[0] - 1):
        raise NotLeading(-1)
    for place, (x, y) in enumerate(one[1]):
        if value[x] != value[y] and (value[x], value[y]) not in other[1]:
            raise NotLeading(place)
    return value


def same_or_below(order, x, y):
    """Whether x is y or below it."""
    return x == y or (x, y) in order[1]


def product_order(one, other):
    """The order of the pairs of spots, x of one and y of other being x * m + y."""
    n, m = one[0], other[0]
    need_spots(n * m)
    pairs = []
    for low in range(n * m):
        for high in range(n * m):
            firsts = same_or_below(one, low // m, high // m)
            if low != high and firsts and same_or_below(other, low % m, high % m):
                pairs.append((low, high))
    return n * m, tuple(pairs)


def beside_order(one, other):
    """The order with the spots of other behind those of one."""
    n = one[0]
    need_spots(n + other[0])
    return n + other[0], one[1] + tuple([(n + x, n + y) for x, y in other[1]])


def all_rows(order):
    """The rows of all lengths, shortest first, each length ascending."""
    found = []
    for k in range(height(order) + 1):
        found = found + list(rows(order, k))
        # Long rows can be very many, so too many are refused as soon as they are seen.
        need_spots(len(found))
    return found


def rows_order(order):
    """The order of the rows, each below the longer ones that have all its spots."""
    found = all_rows(order)
    pairs = []
    for low, row in enumerate(found):
        for high, longer in enumerate(found):
            if len(row) < len(longer) and all(x in longer for x in row):
                pairs.append((low, high))
    return len(found), tuple(pairs)


def is_loose(order, x):
    """Whether one of the spots below x is above all others of them."""
    below = [y for y, above in order[1] if above == x]
    return any(all(same_or_below(order, z, y) for z in below) for y in below)


def loose_spots(order):
    """The loose spots, ascending."""
    return tuple([x for x in range(order[0]) if is_loose(order, x)])


def bared(order):
    """What is left when the least loose spot is taken off again and again."""
    spots = list(range(order[0]))
    loose = loose_spots(order)
    while loose:
        # The part is numbered in sequence, so its spot number k is the k-th one that is left.
        del spots[loose[0]]
        loose = loose_spots(part_order(order, tuple(spots)))
    return tuple(spots)


def piece_of(order, x):
    """The spots that are tied to x, ascending."""
    piece = [x]
    more = [x]
    while more:
        near = sorted({b for a, b in order[1] if a in more} | {a for a, b in order[1] if b in more})
        more = [y for y in near if y not in piece]
        piece = piece + more
    return tuple(sorted(piece))


def pieces(order):
    """The spot sets that are tied, each without a tie to the others, ascending."""
    return tuple(sorted(set([piece_of(order, x) for x in range(order[0])])))


def is_tied(order):
    """Whether steps up and down lead from each spot to each other one."""
    return len(pieces(order)) <= 1


def bared_leading(order):
    """The leading of the order to itself that leads each spot to the greatest bared one not above it."""
    left = bared(order)
    led = []
    for x in range(order[0]):
        below = [y for y in left if same_or_below(order, y, x)]
        led.append([y for y in below if all(same_or_below(order, z, y) for z in below)][0])
    return tuple(led)


def last_spots(order):
    """The leading of the order of the rows to the order that leads each row to its last spot."""
    return tuple([row[-1] for row in all_rows(order)])
