"""Slow second ways of counting holes, by the words of the document; nothing here uses the package."""

import functools
import random

from tests import support

# Orders with rows of the length 3, beside the samples.
TALL = support.order(5, (0, 1), (1, 2), (2, 3), (1, 4))
BROAD = support.order(6, (0, 2), (1, 2), (2, 3), (2, 4), (3, 5), (4, 5))
MIXED = support.order(5, (3, 4), (4, 0), (4, 1), (0, 2), (1, 2))
ORDERS = support.SAMPLES + (support.chain(4), TALL, BROAD, MIXED)
EMPTY = (0, ())


def is_below(value, x, y):
    return x == y or (x, y) in value[1]


# Columns.

def added(prime, one, other, factor=1):
    return tuple((a + factor * b) % prime for a, b in zip(one, other))


def null_space(prime, columns):
    """A basis of the tuples of factors with which the columns add up to zeros."""
    kept, found = [], []
    for place, column in enumerate(columns):
        column, factors = list(column), [int(k == place) for k in range(len(columns))]
        for lead, other, made in kept:
            if column[lead]:
                factor = column[lead]
                column = [(a - factor * b) % prime for a, b in zip(column, other)]
                factors = [(a - factor * b) % prime for a, b in zip(factors, made)]
        leads = [k for k, entry in enumerate(column) if entry]
        if leads:
            back = pow(column[leads[0]], prime - 2, prime)
            kept.append((leads[0], [back * a % prime for a in column], [back * a % prime for a in factors]))
        else:
            found.append(tuple(factors))
    return found


def combined(prime, factors, columns, size):
    """The sum of the columns, each times its factor."""
    found = (0,) * size
    for factor, column in zip(factors, columns):
        found = added(prime, found, column, factor)
    return found


def some_of(rng, prime, columns, size):
    return combined(prime, [rng.randrange(prime) for _ in columns], columns, size)


def units(size):
    return [tuple(int(k == place) for k in range(size)) for place in range(size)]


def solution(prime, columns, wanted):
    """Factors with which the columns add up to the wanted one."""
    found = [factors for factors in null_space(prime, list(columns) + [wanted]) if factors[-1]]
    if not found:
        return None
    back = -pow(found[0][-1], prime - 2, prime)
    return tuple(back * a % prime for a in found[0][:-1])


def counted(prime, sizes, border):
    """The sizes of the holes of loads of these sizes, border(k, load) being the border of one."""
    ranks = [support.rank_of(prime, [border(k, load) for load in units(size)]) for k, size in enumerate(sizes)]
    return tuple(size - ranks[k] - (ranks[k - 1] if k else 0) for k, size in enumerate(sizes))


def rank_beside(prime, columns, known):
    """How many columns a basis has of the sums of the columns, sums of the known ones being told apart from none."""
    return support.rank_of(prime, list(known) + list(columns)) - support.rank_of(prime, list(known))


# Rows and loads.

@functools.lru_cache(maxsize=None)
def rows(value, k):
    if k <= 0:
        return [(x,) for x in range(value[0])] if k == 0 else []
    return sorted((x,) + row for row in rows(value, k - 1) for x in range(value[0]) if (x, row[0]) in value[1])


def height(value):
    return max([k for k in range(value[0]) if rows(value, k)], default=-1)


def load_size(patch, k):
    return sum(patch[2][row[-1]] for row in rows(patch[1], k))


def told_by_rows(patch, k, load):
    found = rows(patch[1], k)
    return dict(zip(found, support.split_at([patch[2][row[-1]] for row in found], load)))


def border(patch, k, load):
    """The border by words."""
    prime, told, found = patch[0], told_by_rows(patch, k, load), ()
    for row in rows(patch[1], k + 1):
        made = (0,) * patch[2][row[-1]]
        for i in range(k + 1):
            made = added(prime, made, told[row[:i] + row[i + 1:]], (-1) ** i)
        led = support.times(prime, support.lead_table(patch, row[-2], row[-1]), told[row[:-1]])
        found += added(prime, made, led, (-1) ** (k + 1))
    return found


def borders(patch, k):
    """The borders of the degree k of all units."""
    if k == 0:
        return []
    return [border(patch, k - 1, load) for load in units(load_size(patch, k - 1))]


def closed(patch, k):
    """A basis of the loads of the degree k with the border 0."""
    every = units(load_size(patch, k))
    return null_space(patch[0], [border(patch, k, load) for load in every])


def hole_sizes(patch):
    sizes = [load_size(patch, k) for k in range(height(patch[1]) + 1)]
    return counted(patch[0], sizes, lambda k, load: border(patch, k, load))


def hole_sizes_on(patch, keep):
    """The hole sizes of the loads that tell zeros for all rows but those to keep."""
    wanted = [[row for row in rows(patch[1], k) if keep(row)] for k in range(height(patch[1]) + 2)]

    def border_on(k, load):
        told = dict(zip(wanted[k], support.split_at([patch[2][row[-1]] for row in wanted[k]], load)))
        whole = tuple(entry for row in rows(patch[1], k) for entry in told.get(row, (0,) * patch[2][row[-1]]))
        made = told_by_rows(patch, k + 1, border(patch, k, whole))
        assert not any(any(column) for row, column in made.items() if row not in wanted[k + 1])
        return tuple(entry for row in wanted[k + 1] for entry in made[row])

    sizes = [sum(patch[2][row[-1]] for row in part) for part in wanted[:-1]]
    return counted(patch[0], sizes, border_on)


def most_loads(patch):
    return max([load_size(patch, k) for k in range(height(patch[1]) + 1)], default=0)


def led_load(one, other, led, k, load):
    told = told_by_rows(one, k, load)
    return tuple(entry for row, column in told.items() for entry in support.times(one[0], led[row[-1]], column))


# Parts of a patch.

def cut(patch, spots):
    """The patch of these spots, numbered anew."""
    at = {x: k for k, x in enumerate(spots)}
    kept = [((at[x], at[y]), table) for (x, y), table in zip(patch[1][1], patch[3]) if x in at and y in at]
    order = (len(spots), tuple(pair for pair, _ in kept))
    return patch[0], order, tuple(patch[2][x] for x in spots), tuple(table for _, table in kept)


def cut_load(patch, spots, fewer, k, load):
    """What a load of the patch cut to the spots tells for the rows of the fewer ones."""
    told = told_by_rows(cut(patch, spots), k, load)
    return tuple(entry for row, column in told.items() if all(spots[x] in fewer for x in row) for entry in column)


def tellings(patch, spots):
    """A basis of the tellings on the spots."""
    part = cut(patch, spots)
    starts = [sum(part[2][:x]) for x in range(len(spots))]
    columns = []
    for unit in units(sum(part[2])):
        column = ()
        for x, y in part[1][1]:
            led = support.times(part[0], support.lead_table(part, x, y), unit[starts[x]:starts[x] + part[2][x]])
            column += added(part[0], led, unit[starts[y]:starts[y] + part[2][y]], -1)
        columns.append(column)
    return null_space(part[0], columns)


def cut_column(patch, spots, fewer, column):
    told = dict(zip(spots, support.split_at([patch[2][x] for x in spots], column)))
    return tuple(entry for x in fewer for entry in told[x])


def upper(value, x):
    return tuple(y for y in range(value[0]) if is_below(value, x, y))


def random_ups(rng, value, most=3):
    """An up set of a few spots and all above them."""
    if not value[0]:
        return ()
    spots = rng.sample(range(value[0]), rng.randint(0, min(most, value[0])))
    return tuple(y for y in range(value[0]) if any(is_below(value, x, y) for x in spots))


def random_cover(rng, value, most=5):
    """A cover of at most so many up sets."""
    found = [random_ups(rng, value) for _ in range(rng.randint(0, most - 1))]
    lost = [x for x in range(value[0]) if not any(x in spots for spots in found)]
    last = tuple(y for y in range(value[0]) if any(is_below(value, x, y) for x in lost))
    found.insert(rng.randint(0, len(found)), last)
    return tuple(found)


def patches(seed, count, springs=3, bonds=2, orders=ORDERS):
    """Patches with at most 160 entries of loads in each degree."""
    return [patch for patch in support.patches(seed, count, orders=orders, springs=springs, bonds=bonds)
            if most_loads(patch) <= 160]


def turned_bases(rng, patch):
    """The patch with other bases at each spot, and the maps of it to the patch and back."""
    turns = [support.random_invertible(rng, patch[0], size) for size in patch[2]]
    tables = []
    for (x, y), table in zip(patch[1][1], patch[3]):
        led = support.matrix_times(patch[0], turns[x][0], table, patch[2][x])
        tables.append(support.matrix_times(patch[0], led, turns[y][1], patch[2][x]))
    return patch[:3] + (tuple(tables),), tuple(table for table, _ in turns), tuple(back for _, back in turns)


def signed(sizes):
    return sum((-1) ** k * size for k, size in enumerate(sizes))


def trimmed(sizes):
    """The sizes without the zeros at the end."""
    sizes = tuple(sizes)
    while sizes and sizes[-1] == 0:
        sizes = sizes[:-1]
    return sizes


def whole_size(value, count):
    """[44]: the sum of the weights times the count."""
    return sum((-1) ** k * count[row[-1]] for k in range(height(value) + 1) for row in rows(value, k))


def flat(prime, value, sizes):
    """The patch of these sizes in which all leads are 0."""
    return prime, value, tuple(sizes), tuple(support.zero_table(sizes[y], sizes[x]) for x, y in value[1])


def layers(*many):
    """The order of so many spots in each layer, each below all of the later ones."""
    level = [k for k, count in enumerate(many) for _ in range(count)]
    n = len(level)
    return n, tuple((x, y) for x in range(n) for y in range(n) if level[x] < level[y])


# Loads of just 160 entries in the degree 1, and of 161; in the degree 2 of just 160, and of 168.
JUST = flat(3, layers(5, 4), (0,) * 5 + (8,) * 4)
MORE = flat(3, layers(7, 3), (0,) * 7 + (8, 8, 7))
JUST_2 = flat(5, layers(5, 4, 1), (0,) * 9 + (8,))
MORE_2 = flat(5, layers(7, 3, 1), (0,) * 10 + (8,))


def halved_cube():
    """The plane in which opposite ends are one: four corners, six edges, three faces of four edges each."""
    edges = [(a, b) for a in range(4) for b in range(a + 1, 4)]
    pairs = [(corner, 4 + k) for k, edge in enumerate(edges) for corner in edge]
    for face in range(3):
        # Each face leaves out two edges that share no corner.
        pairs += [(4 + k, 10 + face) for k in range(6) if k not in (face, 5 - face)]
    return 13, support.closed(13, pairs)


# Orders with holes of degrees above 0.
HOLED = (support.CROWN, support.HEXAGON, support.DOUBLE_CROWN, support.ROOF, support.ENN, BROAD, layers(3, 2, 1),
         layers(2, 2, 2), layers(3, 1), layers(2, 3), support.order(5, (0, 2), (1, 2), (1, 3), (0, 3), (2, 4)))


def holed_patches(seed, count, springs=5, bonds=3, orders=HOLED):
    """Patches with at most 160 entries of loads in each degree, many of them with holes above the degree 0."""
    return patches(seed, count, springs, bonds, orders)


def ones(prime, value, spots):
    """The patch of the size 1 at the spots, with 1 between neighbours of them."""
    sizes = tuple(int(x in spots) for x in range(value[0]))
    tables = tuple(((1,),) if sizes[x] and sizes[y] else support.zero_table(sizes[y], sizes[x]) for x, y in value[1])
    return prime, value, sizes, tables


def summed(one, other):
    """The sum by words."""
    tables = []
    for (x, _), table, more in zip(one[1][1], one[3], other[3]):
        tables.append(tuple(line + (0,) * other[2][x] for line in table)
                      + tuple((0,) * one[2][x] + line for line in more))
    return one[0], one[1], tuple(a + b for a, b in zip(one[2], other[2])), tuple(tables)


def made_patch(rng, prime, value, many=2):
    """A sum of so many patches, each level, lone, springing or standing, in other bases."""
    found = flat(prime, value, (0,) * value[0])
    for _ in range(many if value[0] else 0):
        x = rng.randrange(value[0])
        spots = rng.choice((tuple(range(value[0])), (x,), upper(value, x), upper(value, x),
                            tuple(y for y in range(value[0]) if is_below(value, y, x))))
        found = summed(found, ones(prime, value, spots))
    return turned_bases(rng, found)[0]


def made_patches(seed, count, many=2, orders=HOLED):
    """Such sums with at most 160 entries of loads in each degree."""
    rng = random.Random(seed)
    found = [made_patch(rng, support.PRIMES[k % 6], rng.choice(orders), many) for k in range(count)]
    return [patch for patch in found if most_loads(patch) <= 160]


def made_pairs(seed, count, many=2, orders=HOLED):
    """Pairs of such sums over one order and prime."""
    rng = random.Random(seed)
    found = []
    for k in range(count):
        value = rng.choice(orders)
        pair = tuple(made_patch(rng, support.PRIMES[k % 6], value, rng.randint(1, many)) for _ in range(2))
        if max(most_loads(patch) for patch in pair) <= 160:
            found.append(pair)
    return found


# Leadings.

SMALL = tuple(value for value in ORDERS + HOLED if value[0] <= 5)


def is_leading(one, other, led):
    return all(is_below(other, led[x], led[y]) for x, y in one[1])


def random_leading(rng, one, other):
    """Some leading of one to other, of which there are none if other alone has no spot."""
    while True:
        led = {}
        for x in sorted(range(one[0]), key=lambda x: sum(y == x for _, y in one[1])):
            fitting = [z for z in range(other[0])
                       if all(is_below(other, led[y], z) for y in led if (y, x) in one[1])]
            if not fitting:
                break
            led[x] = rng.choice(fitting)
        if len(led) == one[0]:
            return tuple(led[x] for x in range(one[0]))


def leading_on(rng, one, orders=SMALL):
    """(other, a leading of one to it)."""
    other = rng.choice([value for value in orders if value[0] or not one[0]])
    return other, random_leading(rng, one, other)


def above(other, led, y):
    """The spots that are led to y or above it."""
    return tuple(x for x, z in enumerate(led) if is_below(other, y, z))


def below(other, led, y):
    return tuple(x for x, z in enumerate(led) if is_below(other, z, y))


def moving(seed, count, many=2):
    """(patch, other, leading of its order to other)."""
    rng = random.Random(seed)
    found = []
    for patch in made_patches(seed, count, many, SMALL) + patches(seed, count, orders=SMALL):
        found.append((patch,) + leading_on(rng, patch[1]))
    return found
