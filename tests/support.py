"""Orders, patches and slow second ways of counting, for the tests; nothing here uses the package."""

import itertools
import random

PRIMES = (2, 3, 5, 7, 11, 13)


# Columns and lots, by trying all of them.

def all_columns(prime, size):
    return list(itertools.product(range(prime), repeat=size))


def times(prime, table, column):
    return tuple(sum(a * b for a, b in zip(line, column)) % prime for line in table)


def matrix_times(prime, one, other, size):
    """First one, then other; lines of one have so many entries."""
    return tuple(tuple(sum(line[k] * one[k][j] for k in range(len(one))) % prime for j in range(size))
                 for line in other)


def identity(size):
    return tuple(tuple(int(i == j) for j in range(size)) for i in range(size))


def zero_table(lines, entries):
    return tuple((0,) * entries for _ in range(lines))


def random_table(rng, prime, lines, entries):
    return tuple(tuple(rng.randrange(prime) for _ in range(entries)) for _ in range(lines))


def random_column(rng, prime, size):
    return tuple(rng.randrange(prime) for _ in range(size))


def span(prime, columns, size):
    """The set of all sums of multiples."""
    found = {(0,) * size}
    for column in columns:
        found = {tuple((a + k * b) % prime for a, b in zip(one, column)) for one in found for k in range(prime)}
    return found


def is_reduced(columns):
    """Whether these are a reduced basis by the words of point [1]."""
    leads = []
    for column in columns:
        first = [k for k, entry in enumerate(column) if entry != 0]
        if not first or column[first[0]] != 1:
            return False
        leads.append(first[0])
    if any(a >= b for a, b in zip(leads, leads[1:])):
        return False
    return all(columns[i][leads[j]] == 0 for i in range(len(columns)) for j in range(len(columns)) if i != j)


def lead_places(columns):
    return [[k for k, entry in enumerate(column) if entry != 0][0] for column in columns]


def echelon(prime, columns):
    """An elimination of its own: (lead, column) pairs, each led by 1, not cleared upward."""
    kept = []
    for column in columns:
        column = list(column)
        for lead, other in kept:
            factor = column[lead]
            column = [(a - factor * b) % prime for a, b in zip(column, other)]
        places = [k for k, entry in enumerate(column) if entry]
        if places:
            lead = places[0]
            back = pow(column[lead], prime - 2, prime)
            kept.append((lead, [back * a % prime for a in column]))
    return kept


def rank_of(prime, columns):
    return len(echelon(prime, columns))


def is_invertible(prime, table):
    return all(len(line) == len(table) for line in table) and rank_of(prime, table) == len(table)


def random_invertible(rng, prime, size):
    """A table and the one that undoes it, by steps of both."""
    table = [list(line) for line in identity(size)]
    back = [list(line) for line in identity(size)]
    for i in range(size):
        factor = rng.randrange(1, prime)
        undo = pow(factor, prime - 2, prime)
        table[i] = [factor * a % prime for a in table[i]]
        for line in back:
            line[i] = line[i] * undo % prime
    for _ in range(2 * size):
        if size < 2:
            break
        i, j = rng.sample(range(size), 2)
        factor = rng.randrange(prime)
        table[i] = [(a + factor * b) % prime for a, b in zip(table[i], table[j])]
        for line in back:
            line[j] = (line[j] - factor * line[i]) % prime
    return tuple(map(tuple, table)), tuple(map(tuple, back))


# Orders.

def closed(n, pairs):
    """The least relation with the pairs that has (x, z) with (x, y) and (y, z)."""
    found = set(pairs)
    while True:
        more = {(x, z) for x, y in found for w, z in found if y == w} - found
        if not more:
            return tuple(sorted(found))
        found |= more


def is_order_by_words(n, pairs):
    known = set(pairs)
    if any(x == y for x, y in known):
        return False
    return all((x, z) in known for x, y in known for w, z in known if y == w)


def all_orders(n):
    """All orders on n spots, by trying all relations."""
    unlike = [(x, y) for x in range(n) for y in range(n) if x != y]
    found = []
    for bits in range(2 ** len(unlike)):
        pairs = tuple(pair for k, pair in enumerate(unlike) if bits >> k & 1)
        if is_order_by_words(n, pairs):
            found.append((n, pairs))
    return found


def chain(n):
    return n, tuple((x, y) for x in range(n) for y in range(x + 1, n))


def antichain(n):
    return n, ()


def order(n, *pairs):
    return n, closed(n, pairs)


def random_order(rng, n, density=0.3):
    names = list(range(n))
    rng.shuffle(names)
    pairs = [(names[i], names[j]) for i in range(n) for j in range(i + 1, n) if rng.random() < density]
    return n, closed(n, pairs)


def subsets(n):
    return [tuple(x for x in range(n) if bits >> x & 1) for bits in range(2 ** n)]


def is_up_by_words(value, spots):
    return all(y in spots for x, y in value[1] if x in spots)


# Two crowns: every second spot above two neighbours, without a spot below or above all.
CROWN = order(4, (0, 2), (0, 3), (1, 2), (1, 3))
DIAMOND = order(4, (0, 1), (0, 2), (1, 3), (2, 3))
VEE = order(3, (0, 1), (0, 2))
ROOF = order(3, (0, 2), (1, 2))
ENN = order(4, (0, 2), (1, 2), (1, 3))
HEXAGON = order(6, (0, 3), (0, 4), (1, 4), (1, 5), (2, 5), (2, 3))
DOUBLE_CROWN = order(6, (0, 2), (0, 3), (1, 2), (1, 3), (2, 4), (2, 5), (3, 4), (3, 5))
SAMPLES = ((0, ()), (1, ()), antichain(3), chain(2), chain(3), VEE, ROOF, ENN, CROWN, DIAMOND,
           order(4, (3, 1), (3, 0), (1, 2)), order(5, (4, 0), (4, 2), (0, 3), (2, 3)), HEXAGON, DOUBLE_CROWN)


# Patches.

def sizes_fit(sizes):
    return all(size <= 8 for size in sizes) and sum(sizes) <= 40


def quotient_patch(rng, prime, value, springs, bonds):
    """Columns made of springs, each alive at its spot and above, with bonds (spot, column) made zeros."""
    n, pairs = value
    below = {x: [y for y in range(n) if y == x or (y, x) in pairs] for x in range(n)}
    alive = {x: [g for g, spot in enumerate(springs) if spot in below[x]] for x in range(n)}
    cleared, free = {}, {}
    for x in range(n):
        cleared[x] = echelon(prime, [column for spot, column in bonds if spot in below[x]])
        leads = [lead for lead, _ in cleared[x]]
        free[x] = [g for g in alive[x] if g not in leads]
    turns = {x: random_invertible(rng, prime, len(free[x])) for x in range(n)}
    tables = []
    for x, y in pairs:
        columns = []
        for g in free[x]:
            column = [int(k == g) for k in range(len(springs))]
            for _ in range(len(springs)):
                for lead, other in cleared[y]:
                    factor = column[lead]
                    column = [(a - factor * b) % prime for a, b in zip(column, other)]
            columns.append([column[k] for k in free[y]])
        table = tuple(tuple(column[i] for column in columns) for i in range(len(free[y])))
        table = matrix_times(prime, turns[x][1], table, len(free[x]))
        tables.append(matrix_times(prime, table, turns[y][0], len(free[x])))
    return prime, value, tuple(len(free[x]) for x in range(n)), tuple(tables)


def random_patch(rng, prime, value, springs=4, bonds=2):
    """A patch over the order: every patch is, up to being the same, such a quotient."""
    n = value[0]
    if n == 0:
        return prime, value, (), ()
    while True:
        spots = [rng.randrange(n) for _ in range(springs)]
        found = []
        for _ in range(bonds):
            spot = rng.randrange(n)
            column = [rng.randrange(prime) if x == spot or (x, spot) in value[1] else 0 for x in spots]
            found.append((spot, column))
        patch = quotient_patch(rng, prime, value, spots, found)
        if sizes_fit(patch[2]):
            return patch


def some(rng, most):
    """A number up to most, but seldom 0."""
    return rng.randint(1, most) if rng.random() < 0.95 else 0


def patches(seed, count, primes=PRIMES, orders=SAMPLES, springs=4, bonds=2):
    """Patches over sample orders and all primes, always the same ones for a seed."""
    rng = random.Random(seed)
    found = []
    for k in range(count):
        prime = primes[k % len(primes)]
        value = orders[rng.randrange(len(orders))]
        found.append(random_patch(rng, prime, value, some(rng, springs), rng.randrange(bonds + 1)))
    return found


def patch_pairs(seed, count, primes=PRIMES, orders=SAMPLES, springs=3, bonds=2):
    """Pairs of patches over one order and prime."""
    rng = random.Random(seed)
    found = []
    for k in range(count):
        prime = primes[k % len(primes)]
        value = orders[rng.randrange(len(orders))]
        found.append(tuple(random_patch(rng, prime, value, some(rng, springs), rng.randrange(bonds + 1))
                           for _ in range(2)))
    return found


def lead_table(patch, x, y):
    if x == y:
        return identity(patch[2][x])
    return patch[3][patch[1][1].index((x, y))]


def split_at(sizes, column):
    """The column cut into pieces of these sizes."""
    found, place = [], 0
    for size in sizes:
        found.append(tuple(column[place:place + size]))
        place += size
    return found


def is_telling(patch, spots, column):
    told = dict(zip(spots, split_at([patch[2][x] for x in spots], column)))
    return all(times(patch[0], lead_table(patch, x, y), told[x]) == told[y]
               for x, y in patch[1][1] if x in told and y in told)


def roads_agree(one, other, led):
    """The first pair at which two roads differ, or None."""
    prime, value = one[0], one[1]
    for place, (x, y) in enumerate(value[1]):
        first = matrix_times(prime, one[3][place], led[y], one[2][x])
        if first != matrix_times(prime, led[x], other[3][place], one[2][x]):
            return place
    return None


def tables_of(one, other, column):
    """The tables that are written as one column."""
    found = []
    for x, part in enumerate(split_at([a * b for a, b in zip(one[2], other[2])], column)):
        found.append(tuple(split_at([one[2][x]] * other[2][x], part)))
    return tuple(found)


def column_of(led):
    """The tables, written as one column."""
    return tuple(entry for table in led for line in table for entry in line)


def random_member(rng, prime, basis, size):
    """Some column of the lot."""
    column = (0,) * size
    for other in basis:
        factor = rng.randrange(prime)
        column = tuple((a + factor * b) % prime for a, b in zip(column, other))
    return column


# What may be returned, and how a refusal is looked at.

def is_plain(value):
    """Whether the value is of the kinds that point [2] allows."""
    if isinstance(value, tuple):
        return type(value) is tuple and all(is_plain(part) for part in value)
    return value is None or type(value) in (int, str, bool)


def refusal(action, *args, **named):
    """The error that the call raises, or None."""
    try:
        action(*args, **named)
    except ValueError as error:
        return error
    return None


def told_of(error):
    """The name and the attributes of an error."""
    if error is None:
        return None
    found = [type(error).__name__]
    for name in ("rule", "place", "limit"):
        if hasattr(error, name):
            found.append(getattr(error, name))
    return tuple(found)


def refused(action, *args, **named):
    return told_of(refusal(action, *args, **named))
