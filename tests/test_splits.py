"""[14]: patches that are the same, patches that are split."""

import itertools
import random
import unittest

from patchrooms.maps import map_space, need_map
from patchrooms.patches import level_patch, lone_patch, patch_breach, springing, standing
from patchrooms.splits import is_same, same_map, split_map, unsplit_patches, unsplit_sizes
from patchrooms.sums import sum_patch
from tests import support

EMPTY = (3, (0, ()), (), ())
# Three spots below a fourth one.
STAR = support.order(4, (0, 3), (1, 3), (2, 3))


def maps_count(one, other):
    size = sum(a * b for a, b in zip(one[2], other[2]))
    return None if size > 160 else one[0] ** len(map_space(one, other))


def conjugated(rng, patch):
    """The same patch, with other columns told as units."""
    prime, order, sizes, tables = patch
    turns = [support.random_invertible(rng, prime, size) for size in sizes]
    led = []
    for (x, y), table in zip(order[1], tables):
        table = support.matrix_times(prime, turns[x][1], table, sizes[x])
        led.append(support.matrix_times(prime, table, turns[y][0], sizes[x]))
    return prime, order, sizes, tuple(led)


def round_patch(prime, table):
    """Over a crown, with one table that is not still: unsplit as the table is."""
    size = len(table)
    still = support.identity(size)
    return prime, support.CROWN, (size,) * 4, (still, still, still, table)


def sum_of(parts, prime, order):
    """The sum by blocks, without bounds."""
    sizes = tuple(sum(part[2][x] for part in parts) for x in range(order[0]))
    tables = []
    for place, (x, y) in enumerate(order[1]):
        lines = []
        for k, part in enumerate(parts):
            before = sum(other[2][x] for other in parts[:k])
            behind = sizes[x] - before - part[2][x]
            lines += [(0,) * before + line + (0,) * behind for line in part[3][place]]
        tables.append(tuple(lines))
    return prime, order, sizes, tuple(tables)


def stretch(prime, n, i, j):
    """Over a chain, the size 1 from i to j."""
    sizes = tuple(int(i <= x <= j) for x in range(n))
    tables = tuple(((1,),) if sizes[x] and sizes[y] else support.zero_table(sizes[y], sizes[x])
                   for x, y in support.chain(n)[1])
    return prime, support.chain(n), sizes, tables


def chain_rank(patch, i, j):
    n = patch[1][0]
    if i < 0 or j >= n:
        return 0
    return support.rank_of(patch[0], support.lead_table(patch, i, j))


class SameTest(unittest.TestCase):

    def check_same(self, one, other):
        led = same_map(one, other)
        self.assertIs(is_same(one, other), True)
        self.assertTrue(support.is_plain(led))
        self.assertIs(need_map(one, other, led), led)
        self.assertTrue(all(support.is_invertible(one[0], table) for table in led))

    def check_unlike(self, one, other):
        self.assertIs(is_same(one, other), False)
        self.assertIsNone(same_map(one, other))

    def test_given(self):
        two = (5, support.chain(2), (1, 1), (((2,),),))
        self.check_same(two, level_patch(5, support.chain(2), 1))
        self.check_unlike(two, (5, support.chain(2), (1, 1), (((0,),),)))
        self.check_unlike(two, lone_patch(5, support.chain(2), 0))
        self.check_same(EMPTY, EMPTY)
        self.assertEqual(same_map(EMPTY, EMPTY), ())
        none = level_patch(2, support.VEE, 0)
        self.check_same(none, none)
        self.assertEqual(same_map(none, none), ((), (), ()))
        # Tables can be turned back at each spot alone, but by no one map.
        self.check_unlike(round_patch(5, ((2,),)), level_patch(5, support.CROWN, 1))
        self.check_unlike(round_patch(5, ((2,),)), round_patch(5, ((3,),)))

    def test_round_patches_are_the_same_as_their_tables(self):
        self.check_same(round_patch(3, ((0, 1), (1, 0))), round_patch(3, ((1, 0), (0, 2))))
        self.check_unlike(round_patch(3, ((1, 1), (0, 1))), round_patch(3, ((1, 0), (0, 1))))
        self.check_same(round_patch(2, ((1, 1), (1, 0))), round_patch(2, ((0, 1), (1, 1))))

    def test_put_otherwise(self):
        rng = random.Random(1)
        seen = 0
        for patch in support.patches(1, 250, springs=5):
            count = maps_count(patch, patch)
            if count is None or count > 5000:
                continue
            seen += 1
            self.check_same(patch, conjugated(rng, patch))
            self.check_same(conjugated(rng, patch), patch)
        self.assertGreater(seen, 100)

    def test_against_all_maps(self):
        answers = {True: 0, False: 0}
        rng = random.Random(2)
        for one, other in support.patch_pairs(2, 500, primes=(2, 3), orders=support.SAMPLES[3:9], springs=3):
            if rng.random() < 0.3:
                other = conjugated(rng, one)
            size = sum(a * b for a, b in zip(one[2], other[2]))
            if one[0] ** size > 800 or (count := maps_count(one, other)) is None or count > 5000:
                continue
            expected = False
            for column in support.all_columns(one[0], size):
                led = support.tables_of(one, other, column)
                if one[2] == other[2] and support.roads_agree(one, other, led) is None:
                    expected = expected or all(support.is_invertible(one[0], table) for table in led)
            answers[expected] += 1
            if expected:
                self.check_same(one, other)
            else:
                self.check_unlike(one, other)
        self.assertGreater(min(answers.values()), 50)

    def test_chains_are_told_by_ranks(self):
        rng = random.Random(3)
        answers = {True: 0, False: 0}
        for k in range(300):
            prime, n = (2, 3, 5)[k % 3], rng.randint(1, 4)
            one, other = (support.random_patch(rng, prime, support.chain(n), 3, 2) for _ in range(2))
            if (count := maps_count(one, other)) is None or count > 5000:
                continue
            alike = all(chain_rank(one, i, j) == chain_rank(other, i, j) for i in range(n) for j in range(i, n))
            answers[alike] += 1
            self.assertIs(is_same(one, other), alike)
        self.assertGreater(min(answers.values()), 20)


class BoundsTest(unittest.TestCase):

    def ones(self, prime, n):
        return level_patch(prime, support.antichain(n), 1)

    def test_just_5000_maps_and_more(self):
        for prime, n in ((2, 12), (3, 7), (5, 5), (7, 4), (11, 3), (13, 3)):
            just, more = self.ones(prime, n), self.ones(prime, n + 1)
            self.assertLessEqual(prime ** n, 5000)
            self.assertGreater(prime ** (n + 1), 5000)
            self.assertIs(is_same(just, just), True)
            self.assertEqual(unsplit_sizes(just), tuple(sorted(support.identity(n))))
            self.assertEqual(len(unsplit_patches(just)), n)
            self.assertIsNotNone(split_map(just, (just,)))
            for function in (is_same, same_map):
                self.assertEqual(support.refused(function, more, more), ("TooMany", 5000))
            for function in (unsplit_sizes, unsplit_patches):
                self.assertEqual(support.refused(function, more), ("TooMany", 5000))
            self.assertEqual(support.refused(split_map, more, (more,)), ("TooMany", 5000))

    def test_too_many_maps_whatever_the_sizes_are(self):
        one, other = (2, (1, ()), (3,), ()), (2, (1, ()), (5,), ())
        for function in (is_same, same_map):
            self.assertEqual(support.refused(function, one, other), ("TooMany", 5000))
        one = (2, support.antichain(3), (8, 8, 4), ())
        other = (2, support.antichain(3), (8, 8, 8), ())
        for function in (is_same, same_map):
            self.assertEqual(support.refused(function, one, other), ("TooMany", 5000))
            self.assertEqual(support.refused(function, other, other), ("TooMany", 160))

    def test_not_fit_ahead_of_160_ahead_of_5000(self):
        big = (2, support.antichain(5), (8,) * 5, ())
        for other in ((3,) + big[1:], (2, support.antichain(4), (8,) * 4, ()),
                      (2, support.order(5, (0, 1)), (8,) * 5, (support.identity(8),))):
            for function in (is_same, same_map):
                self.assertEqual(support.refused(function, big, other), ("NotFit",))
                self.assertEqual(support.refused(function, other, big), ("NotFit",))
        for function in (is_same, same_map):
            self.assertEqual(support.refused(function, big, big), ("TooMany", 160))
        for function in (unsplit_sizes, unsplit_patches):
            self.assertEqual(support.refused(function, big), ("TooMany", 160))
        self.assertEqual(support.refused(split_map, big, (big,)), ("TooMany", 160))
        just = (2, support.antichain(10), (4,) * 10, ())
        for function in (unsplit_sizes, unsplit_patches):
            self.assertEqual(support.refused(function, just), ("TooMany", 5000))

    def test_many_entries_but_few_maps(self):
        rng = random.Random(4)
        order = support.order(5, (0, 2), (0, 3), (0, 4), (1, 2), (1, 3), (1, 4))
        tables = tuple(support.random_table(rng, 7, 5, 5) for _ in order[1])
        patch = (7, order, (5,) * 5, tables)
        self.assertEqual(maps_count(patch, patch), 7)
        self.assertEqual(unsplit_sizes(patch), ((5,) * 5,))
        self.assertIs(is_same(patch, conjugated(rng, patch)), True)


class UnsplitTest(unittest.TestCase):

    def check(self, patch):
        parts = unsplit_patches(patch)
        self.assertTrue(support.is_plain(parts))
        self.assertEqual(unsplit_sizes(patch), tuple(sorted(part[2] for part in parts)))
        for part in parts:
            self.assertIsNone(patch_breach(part))
            self.assertEqual(part[:2], patch[:2])
            self.assertTrue(any(part[2]))
            self.assertFalse(self.has_own_double(part))
        whole = sum_of(parts, patch[0], patch[1])
        self.assertEqual(whole[2], patch[2])
        led = split_map(patch, parts)
        self.assertIs(need_map(whole, patch, led), led)
        self.assertTrue(all(support.is_invertible(patch[0], table) for table in led))

    def has_own_double(self, patch):
        """Whether some map to itself, neither still nor all 0, done twice is itself."""
        basis = map_space(patch, patch)
        size = sum(a * a for a in patch[2])
        for column in support.span(patch[0], basis, size):
            led = support.tables_of(patch, patch, column)
            still = all(table == support.identity(len(table)) for table in led)
            if any(column) and not still:
                if all(support.matrix_times(patch[0], table, table, len(table)) == table for table in led):
                    return True
        return False

    def test_given(self):
        self.assertEqual(unsplit_sizes(EMPTY), ())
        self.assertEqual(unsplit_patches(EMPTY), ())
        for order in (support.VEE, support.chain(3), support.antichain(2)):
            self.assertEqual(unsplit_sizes(level_patch(3, order, 0)), ())
            self.assertEqual(unsplit_patches(level_patch(3, order, 0)), ())
        self.assertEqual(unsplit_sizes(level_patch(3, support.VEE, 1)), ((1, 1, 1),))
        self.assertEqual(unsplit_sizes(level_patch(3, support.VEE, 2)), ((1, 1, 1), (1, 1, 1)))
        self.assertEqual(unsplit_sizes(level_patch(3, support.antichain(2), 1)), ((0, 1), (1, 0)))
        zero = (3, support.chain(2), (1, 2), (((0,), (0,)),))
        self.assertEqual(unsplit_sizes(zero), ((0, 1), (0, 1), (1, 0)))
        self.assertEqual(unsplit_sizes((3, support.chain(2), (1, 2), (((2,), (1,)),))), ((0, 1), (1, 1)))

    def test_greater_ones_that_are_not_split(self):
        three = tuple(((1,), (0,)) if k == 0 else ((0,), (1,)) if k == 1 else ((1,), (1,)) for k in range(3))
        self.assertEqual(unsplit_sizes((2, STAR, (1, 1, 1, 2), three)), ((1, 1, 1, 2),))
        twice = three[:2] + (((0,), (1,)),)
        self.assertEqual(unsplit_sizes((2, STAR, (1, 1, 1, 2), twice)), ((0, 1, 1, 1), (1, 0, 0, 1)))

    def test_round_patches_split_as_their_tables(self):
        turn, bent = ((0, 1), (1, 0)), ((1, 1), (0, 1))
        self.assertEqual(unsplit_sizes(round_patch(3, turn)), ((1,) * 4,) * 2)
        self.assertEqual(unsplit_sizes(round_patch(2, turn)), ((2,) * 4,))
        self.assertEqual(unsplit_sizes(round_patch(5, bent)), ((2,) * 4,))
        # x * x + 1 has no root over 3 and over 7, but over 5 and over 13.
        root = ((0, 1), (2, 0))
        self.assertEqual(unsplit_sizes(round_patch(3, root)), ((2,) * 4,))
        self.assertEqual(unsplit_sizes(round_patch(7, ((0, 1), (6, 0)))), ((2,) * 4,))
        self.assertEqual(unsplit_sizes(round_patch(5, ((0, 1), (4, 0)))), ((1,) * 4,) * 2)
        self.assertEqual(unsplit_sizes(round_patch(13, ((0, 1), (12, 0)))), ((1,) * 4,) * 2)
        self.assertEqual(unsplit_sizes(round_patch(2, ((0, 1), (0, 0)))), ((2,) * 4,))

    def test_samples(self):
        seen = split = 0
        for patch in support.patches(5, 250, springs=5):
            count = maps_count(patch, patch)
            if count is None or count > 5000:
                continue
            seen += 1
            split += len(unsplit_patches(patch)) > 1
            self.check(patch)
        self.assertGreater(seen, 100)
        self.assertGreater(split, 50)

    def test_sums_of_known_ones(self):
        rng = random.Random(6)
        for k in range(60):
            prime = support.PRIMES[k % 6]
            order = support.SAMPLES[rng.randrange(1, len(support.SAMPLES))]
            parts = []
            for _ in range(rng.randint(1, 3)):
                parts.append(rng.choice((standing, springing, lone_patch))(prime, order, rng.randrange(order[0])))
            whole = conjugated(rng, sum_of(parts, prime, order))
            count = maps_count(whole, whole)
            if count is None or count > 5000:
                continue
            self.assertEqual(unsplit_sizes(whole), tuple(sorted(part[2] for part in parts)))
            self.assertIs(is_same(whole, sum_of(unsplit_patches(whole), prime, order)), True)

    def test_chains(self):
        rng = random.Random(7)
        seen = 0
        for k in range(150):
            prime, n = support.PRIMES[k % 6], rng.randint(1, 5)
            patch = support.random_patch(rng, prime, support.chain(n), rng.randint(1, 4), rng.randint(0, 3))
            count = maps_count(patch, patch)
            if count is None or count > 5000:
                continue
            seen += 1
            expected = []
            for i in range(n):
                for j in range(i, n):
                    times = (chain_rank(patch, i, j) - chain_rank(patch, i - 1, j)
                             - chain_rank(patch, i, j + 1) + chain_rank(patch, i - 1, j + 1))
                    expected += [stretch(prime, n, i, j)[2]] * times
            self.assertEqual(unsplit_sizes(patch), tuple(sorted(expected)))
        self.assertGreater(seen, 80)


class SplitMapTest(unittest.TestCase):

    def check(self, patch, parts):
        led = split_map(patch, parts)
        self.assertTrue(support.is_plain(led))
        whole = sum_of(parts, patch[0], patch[1])
        self.assertIs(need_map(whole, patch, led), led)
        self.assertTrue(all(support.is_invertible(patch[0], table) for table in led))

    def test_given(self):
        two = support.chain(2)
        patch = (3, two, (1, 2), (((2,), (1,)),))
        self.check(patch, (level_patch(3, two, 1), lone_patch(3, two, 1)))
        self.check(patch, (lone_patch(3, two, 1), level_patch(3, two, 1)))
        self.check(patch, (patch,))
        self.check(patch, (level_patch(3, two, 0), patch, level_patch(3, two, 0)))
        self.assertIsNone(split_map(patch, (lone_patch(3, two, 0), lone_patch(3, two, 1), lone_patch(3, two, 1))))

    def test_in_sequence(self):
        two = support.chain(2)
        parts = (lone_patch(2, two, 1), level_patch(2, two, 1), lone_patch(2, two, 0))
        for arranged in itertools.permutations(parts):
            whole = sum_of(arranged, 2, two)
            for other in itertools.permutations(parts):
                self.check(whole, other)

    def test_no_parts(self):
        self.assertEqual(split_map(EMPTY, ()), ())
        self.assertEqual(split_map(level_patch(3, support.VEE, 0), ()), ((), (), ()))
        self.assertIsNone(split_map(level_patch(3, support.VEE, 1), ()))
        self.assertEqual(split_map(EMPTY, (EMPTY, EMPTY)), ())

    def test_sizes_come_ahead_of_the_errors(self):
        big = (2, support.antichain(5), (8,) * 5, ())
        self.assertIsNone(split_map(big, ()))
        self.assertIsNone(split_map(big, (big, big)))
        self.assertIsNone(split_map(big, (level_patch(2, support.antichain(5), 3),)))
        self.assertEqual(support.refused(split_map, big, (big,)), ("TooMany", 160))
        half = (2, support.antichain(5), (4,) * 5, ())
        self.assertEqual(support.refused(split_map, big, (half, half)), ("TooMany", 160))
        self.assertIsNone(split_map(half, (big,)))
        self.assertEqual(support.refused(split_map, half, (half,)), ("TooMany", 5000))
        # Added up at each spot, not in all.
        self.assertIsNone(split_map(lone_patch(2, support.antichain(2), 0), (lone_patch(2, support.antichain(2), 1),)))

    def test_parts_that_do_not_fit(self):
        patch = level_patch(5, support.VEE, 1)
        self.assertEqual(support.refused(split_map, patch, (level_patch(7, support.VEE, 1),)), ("NotFit",))
        self.assertEqual(support.refused(split_map, patch, (level_patch(5, support.ROOF, 1),)), ("NotFit",))
        self.assertEqual(support.refused(split_map, patch, (level_patch(5, support.antichain(3), 1),)), ("NotFit",))
        # Here, too, the sizes are looked at first.
        self.assertIsNone(split_map(patch, (level_patch(7, support.VEE, 2),)))
        self.assertIsNone(split_map(patch, (level_patch(5, support.chain(2), 1),)))
        self.assertIsNone(split_map(patch, (patch, level_patch(5, support.chain(4), 0))))

    def test_unlike_patches_of_the_same_sizes(self):
        self.assertIsNone(split_map(round_patch(5, ((2,),)), (level_patch(5, support.CROWN, 1),)))
        self.assertIsNone(split_map(level_patch(5, support.VEE, 1), tuple(
            lone_patch(5, support.VEE, x) for x in range(3))))

    def test_sums(self):
        rng = random.Random(8)
        seen = 0
        for one, other in support.patch_pairs(9, 150, springs=2):
            whole = sum_patch(one, other)
            count = maps_count(whole, whole)
            if count is None or count > 5000:
                continue
            seen += 1
            self.check(whole, (one, other))
            self.check(conjugated(rng, whole), (other, one))
        self.assertGreater(seen, 50)


if __name__ == "__main__":
    unittest.main()
