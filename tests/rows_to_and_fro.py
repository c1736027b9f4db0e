"""Way rows and slow second ways of looking at them, for the tests; nothing here uses the package."""

import random

from tests import slow, support


def ends(toward, place):
    return (place, place + 1) if toward == 1 else (place + 1, place)


def towards_of(row):
    return tuple(way[0] for way in row[2])


def random_row(rng, prime, towards, sizes):
    """Any tables at all are a way row."""
    ways = []
    for place, toward in enumerate(towards):
        low, high = ends(toward, place)
        ways.append((toward, support.random_table(rng, prime, sizes[high], sizes[low])))
    return prime, tuple(sizes), tuple(ways)


def straight(prime, towards, lot):
    """The sum of the stretches by words: at each place an entry for each stretch that has the place."""
    entries = [[(i, j, k) for i, j, times in lot for k in range(times) if i <= place <= j]
               for place in range(len(towards) + 1)]
    ways = []
    for place, toward in enumerate(towards):
        low, high = ends(toward, place)
        ways.append((toward, tuple(tuple(int(one == other) for one in entries[low]) for other in entries[high])))
    return prime, tuple(len(part) for part in entries), tuple(ways)


def turned(rng, row):
    """The row with other bases at each place."""
    prime, sizes, ways = row
    turns = [support.random_invertible(rng, prime, size) for size in sizes]
    found = []
    for place, (toward, table) in enumerate(ways):
        low, high = ends(toward, place)
        table = support.matrix_times(prime, turns[low][0], table, sizes[low])
        found.append((toward, support.matrix_times(prime, table, turns[high][1], sizes[low])))
    return prime, sizes, tuple(found)


def random_towards(rng, many):
    return tuple(rng.choice((1, -1)) for _ in range(many))


def random_lot(rng, places, many):
    """Some stretches with how often they stand, sorted."""
    found = {}
    for _ in range(many):
        i, j = sorted(rng.choices(range(places), k=2))
        found[i, j] = found.get((i, j), 0) + rng.choice((1, 1, 2))
    return tuple((i, j, times) for (i, j), times in sorted(found.items()))


def sizes_of(lot, places):
    return tuple(sum(times for i, j, times in lot if i <= place <= j) for place in range(places))


def some_rows(seed, count, most=6, great=8):
    """(row, the stretches of which it was made) over all primes."""
    rng = random.Random(seed)
    found = []
    while len(found) < count:
        places = rng.randint(1, most)
        lot = random_lot(rng, places, rng.randint(0, 5))
        if max(sizes_of(lot, places)) <= great:
            towards = random_towards(rng, places - 1)
            row = straight(support.PRIMES[len(found) % 6], towards, lot)
            found.append((turned(rng, row), lot))
    return found


def random_rows(seed, count, most=5, great=4):
    """Rows of any tables."""
    rng = random.Random(seed)
    found = []
    for k in range(count):
        places = rng.randint(1, most)
        sizes = [rng.randint(0, great) for _ in range(places)]
        found.append(random_row(rng, support.PRIMES[k % 6], random_towards(rng, places - 1), sizes))
    return found


def row_pairs(seed, count, most=5, great=3):
    """Pairs of rows with the same prime and ways that lead alike."""
    rng = random.Random(seed)
    found = []
    for k in range(count):
        places = rng.randint(1, most)
        towards = random_towards(rng, places - 1)
        pair = []
        for _ in range(2):
            if rng.random() < 0.5:
                sizes = [rng.randint(0, great) for _ in range(places)]
                pair.append(random_row(rng, support.PRIMES[k % 6], towards, sizes))
            else:
                lot = random_lot(rng, places, rng.randint(0, 2))
                pair.append(turned(rng, straight(support.PRIMES[k % 6], towards, lot)))
        found.append(tuple(pair))
    return found


def spread(sizes, at, column):
    """A column of all places that has the column at one of them, and zeros elsewhere."""
    return tuple(entry for place, size in enumerate(sizes)
                 for entry in (column if place == at else (0,) * size))


def through_by_words(row, i, j):
    """The rank of the way from tellings on the places to sums there."""
    prime, sizes, ways = row[0], row[1][i:j + 1], row[2][i:j]
    bonds, columns = [], []
    for place, (toward, table) in enumerate(ways):
        low, high = ends(toward, place)
        for unit in slow.units(sizes[low]):
            led = support.times(prime, table, unit)
            bonds.append(slow.added(prime, spread(sizes, low, unit), spread(sizes, high, led), -1))
    # A telling is a column of all places; along each way what is led is what is told.
    for unit in slow.units(sum(sizes)):
        told, column = support.split_at(sizes, unit), ()
        for place, (toward, table) in enumerate(ways):
            low, high = ends(toward, place)
            column += slow.added(prime, support.times(prime, table, told[low]), told[high], -1)
        columns.append(column)
    tellings = slow.null_space(prime, columns)
    return slow.rank_beside(prime, [spread(sizes, 0, telling[:sizes[0]]) for telling in tellings], bonds)


def stretches_by_words(row):
    """From the ranks, by inclusion and exclusion."""
    last = len(row[1]) - 1
    ranks = {(i, j): through_by_words(row, i, j) for i in range(last + 1) for j in range(i, last + 1)}
    found = []
    for i, j in sorted(ranks):
        times = (ranks[i, j] - ranks.get((i - 1, j), 0) - ranks.get((i, j + 1), 0) + ranks.get((i - 1, j + 1), 0))
        if times:
            found.append((i, j, times))
    return tuple(found)
