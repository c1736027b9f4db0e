"""[29], [32]: least rows of standing and of springing patches, sizes near a spot."""

import random
import unittest

from patchrooms.counts import near_sizes, springing_counts, standing_counts
from patchrooms.holes import hole_sizes
from patchrooms.patches import cut_patch, level_patch, lone_patch, springing, standing
from patchrooms.splits import is_same
from patchrooms.sums import sum_patch
from tests import slow, support

NONE = (7, slow.EMPTY, (), ())


def level(prime, order):
    return level_patch(prime, order, 1)


def columns(counts, n):
    return [tuple(line[x] for line in counts) for x in range(n)]


def near_by_words(patch, x):
    spots = slow.upper(patch[1], x)
    part = slow.cut(patch, spots)
    found = slow.hole_sizes_on(part, lambda row: spots.index(x) in row)
    return found + (0,) * (slow.height(patch[1]) + 1 - len(found))


def dual(patch):
    """[40]: over the order upside down, lines and entries of tables exchanged."""
    prime, (n, pairs), sizes, tables = patch
    turned = {(y, x): tuple(tuple(line[k] for line in table) for k in range(sizes[x]))
              for (x, y), table in zip(pairs, tables)}
    return prime, (n, tuple(sorted(turned))), sizes, tuple(turned[pair] for pair in sorted(turned))


def rows_to(order, x, y):
    """The sum with signs over all rows from x to y."""
    return sum((-1) ** k for k in range(order[0]) for row in slow.rows(order, k) if row[0] == x and row[-1] == y)


def some_patches(seed, count):
    return slow.patches(seed, count, springs=4) + slow.made_patches(seed, count // 2)


# A spot below layers of spots: its rows of the length 3 have just 160 entries, or 168.
NEAR_JUST = slow.flat(5, slow.layers(1, 5, 4, 1), (0,) * 10 + (8,))
NEAR_MORE = slow.flat(5, slow.layers(1, 7, 3, 1), (0,) * 11 + (8,))


class StandingTest(unittest.TestCase):

    def test_given(self):
        chain = support.chain(3)
        for prime in support.PRIMES:
            self.assertEqual(standing_counts(standing(prime, chain, 1)), ((0, 1, 0), (0, 0, 0), (0, 0, 0)))
            self.assertEqual(standing_counts(lone_patch(prime, chain, 2)), ((0, 0, 1), (0, 1, 0), (0, 0, 0)))
            self.assertEqual(standing_counts(lone_patch(prime, chain, 0)), ((1, 0, 0), (0, 0, 0), (0, 0, 0)))
            self.assertEqual(standing_counts(level(prime, support.CROWN)), ((0, 0, 1, 1), (1, 1, 0, 0)))
            self.assertEqual(standing_counts(lone_patch(prime, support.DIAMOND, 3)),
                             ((0, 0, 0, 1), (0, 1, 1, 0), (1, 0, 0, 0)))
            self.assertEqual(standing_counts(level(prime, support.VEE)), ((0, 1, 1), (1, 0, 0)))
        self.assertEqual(standing_counts(level_patch(5, support.CROWN, 3)), ((0, 0, 3, 3), (3, 3, 0, 0)))
        self.assertEqual(standing_counts((5, support.chain(2), (1, 2), (((2,), (3,)),))), ((0, 2), (1, 0)))
        self.assertEqual(standing_counts(NONE), ())
        self.assertEqual(standing_counts(level_patch(2, support.VEE, 0)), ((0, 0, 0), (0, 0, 0)))
        self.assertEqual(standing_counts((3, (1, ()), (4,), ())), ((4,),))

    def test_columns_are_near_sizes(self):
        seen = set()
        for patch in some_patches(1, 120):
            found = standing_counts(patch)
            self.assertTrue(support.is_plain(found))
            self.assertEqual(len(found), slow.height(patch[1]) + 1)
            for x, column in enumerate(columns(found, patch[1][0])):
                self.assertEqual(column, near_by_words(patch, x))
                self.assertEqual(column, near_sizes(patch, x))
            seen |= {(patch[0], k) for k, line in enumerate(found) if any(line)}
        self.assertLessEqual({(prime, k) for prime in support.PRIMES for k in (0, 1)}, seen)
        self.assertIn(2, {k for _, k in seen})

    def test_many_loads(self):
        # Without a bound on loads: near sizes as the document puts them together.
        self.assertEqual(standing_counts(level(2, support.chain(16))), ((0,) * 15 + (1,),) + ((0,) * 16,) * 15)
        self.assertEqual(standing_counts(slow.MORE)[0], (0,) * 7 + (8, 8, 7))
        self.assertEqual(standing_counts(slow.MORE)[1], (23,) * 7 + (0,) * 3)
        self.assertEqual(support.refused(hole_sizes, slow.MORE), ("TooMany", 160))

    def test_row_0_is_what_ends(self):
        # Columns that all leads lead to zeros, whatever basis tells them.
        patch = (5, support.chain(2), (3, 1), (((1, 2, 3),),))
        self.assertEqual(standing_counts(patch), ((2, 1), (0, 0)))
        rng = random.Random(2)
        for patch in some_patches(2, 60):
            self.assertEqual(standing_counts(slow.turned_bases(rng, patch)[0]), standing_counts(patch))

    def test_standing_patches_have_no_row_1(self):
        rng = random.Random(3)
        seen = {True: 0, False: 0}
        for patch in some_patches(3, 120):
            prime, order = patch[0], patch[1]
            counts = standing_counts(patch)
            ends = len(counts) < 2 or not any(counts[1])
            whole = slow.flat(prime, order, (0,) * order[0])
            for x in range(order[0]):
                for _ in range(counts[0][x]):
                    whole = slow.summed(whole, standing(prime, order, x))
            if not support.sizes_fit(whole[2]) or support.refused(is_same, patch, whole):
                continue
            self.assertIs(is_same(patch, whole), ends)
            seen[ends] += 1
        self.assertGreater(min(seen.values()), 10)
        for order in slow.HOLED + slow.ORDERS:
            if order[0]:
                x, y = rng.randrange(order[0]), rng.randrange(order[0])
                both = slow.turned_bases(rng, sum_patch(standing(3, order, x), standing(3, order, y)))[0]
                counts = standing_counts(both)
                self.assertEqual(counts[0], tuple((z == x) + (z == y) for z in range(order[0])))
                self.assertFalse(any(any(line) for line in counts[1:]))

    def test_counts_of_sums(self):
        for function in (standing_counts, springing_counts):
            pairs = support.patch_pairs(4, 50, orders=slow.ORDERS) + slow.made_pairs(4, 40)
            for one, other in pairs:
                both = tuple(tuple(a + b for a, b in zip(*lines)) for lines in zip(function(one), function(other)))
                self.assertEqual(function(sum_patch(one, other)), both)

    def test_bound(self):
        chain = support.chain(16)
        just = slow.flat(3, chain, (0,) * 8 + (8,) + (0,) * 6 + (8,))
        more = slow.flat(3, chain, (1,) + (0,) * 7 + (8,) + (0,) * 6 + (8,))
        found = standing_counts(just)
        self.assertEqual(found[0], (0,) * 8 + (8,) + (0,) * 6 + (8,))
        self.assertEqual(found[1], (0,) * 7 + (8,) + (0,) * 6 + (8, 0))
        self.assertFalse(any(any(line) for line in found[2:]))
        self.assertEqual(support.refused(standing_counts, more), ("TooMany", 200))
        self.assertEqual(springing_counts(dual(just)), found)
        self.assertEqual(support.refused(springing_counts, dual(more)), ("TooMany", 200))

    def test_bound_in_later_rows(self):
        # 16, 55, 120 and 80 in all for the size 1; 240 in the third row for the size 2.
        order = slow.layers(5, 5, 5, 1)
        one, two, eight = (slow.flat(2, order, (0,) * 15 + (size,)) for size in (1, 2, 8))
        counts = ((0,) * 15 + (1,), (0,) * 10 + (1,) * 5 + (0,), (0,) * 5 + (4,) * 5 + (0,) * 6, (16,) * 5 + (0,) * 11)
        self.assertEqual(standing_counts(one), counts)
        self.assertEqual(springing_counts(dual(one)), counts)
        self.assertEqual(support.refused(standing_counts, two), ("TooMany", 200))
        self.assertEqual(support.refused(springing_counts, dual(two)), ("TooMany", 200))
        self.assertEqual(support.refused(standing_counts, eight), ("TooMany", 200))
        # Just 200 in a later row: five spots with five at or below them, eight times each.
        order = slow.layers(4, 5, 1)
        just = slow.flat(2, order, (0,) * 9 + (8,))
        self.assertEqual(standing_counts(just), ((0,) * 9 + (8,), (0,) * 4 + (8,) * 5 + (0,), (32,) * 4 + (0,) * 6))
        order = slow.layers(5, 5, 1)
        # Six at or below each of five spots, eight times: 240.
        self.assertEqual(support.refused(standing_counts, slow.flat(2, order, (0,) * 10 + (8,))), ("TooMany", 200))
        self.assertEqual(standing_counts(slow.flat(2, order, (0,) * 10 + (6,)))[1], (0,) * 5 + (6,) * 5 + (0,))


class SpringingTest(unittest.TestCase):

    def test_given(self):
        chain = support.chain(3)
        for prime in support.PRIMES:
            self.assertEqual(springing_counts(springing(prime, chain, 1)), ((0, 1, 0), (0, 0, 0), (0, 0, 0)))
            self.assertEqual(springing_counts(lone_patch(prime, chain, 0)), ((1, 0, 0), (0, 1, 0), (0, 0, 0)))
            self.assertEqual(springing_counts(lone_patch(prime, chain, 2)), ((0, 0, 1), (0, 0, 0), (0, 0, 0)))
            self.assertEqual(springing_counts(level(prime, support.CROWN)), ((1, 1, 0, 0), (0, 0, 1, 1)))
            self.assertEqual(springing_counts(level(prime, support.VEE)), ((1, 0, 0), (0, 0, 0)))
            self.assertEqual(springing_counts(level(prime, support.ROOF)), ((1, 1, 0), (0, 0, 1)))
        self.assertEqual(springing_counts((5, support.chain(2), (1, 2), (((2,), (3,)),))), ((1, 1), (0, 0)))
        self.assertEqual(springing_counts(NONE), ())
        self.assertEqual(springing_counts(level_patch(2, support.VEE, 0)), ((0, 0, 0), (0, 0, 0)))

    def test_duals(self):
        for patch in some_patches(5, 100):
            found = springing_counts(patch)
            self.assertTrue(support.is_plain(found))
            self.assertEqual(found, standing_counts(dual(patch)))
            self.assertEqual(springing_counts(dual(patch)), standing_counts(patch))
            for x, column in enumerate(columns(found, patch[1][0])):
                self.assertEqual(column, near_by_words(dual(patch), x))

    def test_sums_with_signs(self):
        """[45]: they are what the sizes are with the signs between."""
        for patch in some_patches(6, 60):
            order, sizes = patch[1], patch[2]
            found = [slow.signed(column) for column in columns(springing_counts(patch), order[0])]
            self.assertEqual(found, [sum(rows_to(order, x, y) * sizes[x] for x in range(order[0]))
                                     for y in range(order[0])])


class NearTest(unittest.TestCase):

    def test_given(self):
        chain = support.chain(3)
        lone = lone_patch(3, chain, 2)
        self.assertEqual([near_sizes(lone, x) for x in range(3)], [(0, 0, 0), (0, 1, 0), (1, 0, 0)])
        crown = level(3, support.CROWN)
        self.assertEqual([near_sizes(crown, x) for x in range(4)], [(0, 1), (0, 1), (1, 0), (1, 0)])
        sphere = level(3, support.DOUBLE_CROWN)
        self.assertEqual([near_sizes(sphere, x) for x in range(6)],
                         [(0, 0, 1)] * 2 + [(0, 1, 0)] * 2 + [(1, 0, 0)] * 2)
        self.assertEqual(near_sizes((3, (1, ()), (4,), ()), 0), (4,))
        self.assertEqual(near_sizes(level_patch(3, chain, 0), 1), (0, 0, 0))

    def test_by_words(self):
        for patch in some_patches(7, 100):
            for x in range(patch[1][0]):
                found = near_sizes(patch, x)
                self.assertTrue(support.is_plain(found))
                self.assertEqual(found, near_by_words(patch, x))

    def test_by_tellings_above(self):
        for patch in some_patches(8, 120):
            prime, order, sizes, _ = patch
            many = slow.height(order) + 1
            for x in range(order[0]):
                above = tuple(y for y in slow.upper(order, x) if y != x)
                if not above:
                    self.assertEqual(near_sizes(patch, x), (sizes[x],) + (0,) * (many - 1))
                    continue
                leads = [support.lead_table(patch, x, y) for y in above]
                led = [tuple(entry for table in leads for entry in support.times(prime, table, unit))
                       for unit in slow.units(sizes[x])]
                r = support.rank_of(prime, led)
                part = slow.hole_sizes(cut_patch(patch, above))
                expected = (sizes[x] - r, part[0] - r) + part[1:]
                self.assertEqual(near_sizes(patch, x), expected + (0,) * (many - len(expected)))

    def test_bound(self):
        self.assertEqual(near_sizes(NEAR_JUST, 0), (0, 0, 0, 96))
        self.assertEqual(support.refused(near_sizes, NEAR_MORE, 0), ("TooMany", 160))
        # The rows of one spot alone count: the patch has too many loads.
        for patch in (NEAR_JUST, NEAR_MORE):
            self.assertEqual(support.refused(hole_sizes, patch), ("TooMany", 160))
            self.assertEqual(near_sizes(patch, patch[1][0] - 1), (8, 0, 0, 0))
            self.assertEqual(near_sizes(patch, patch[1][0] - 2), (0, 8, 0, 0))
        self.assertEqual(near_sizes(slow.MORE, 0), (0, 23))
        self.assertEqual(near_sizes(slow.MORE, 9), (7, 0))
        # Not only the rows of the last degree: a chain of 10 has most of them between.
        chain = level(2, support.chain(11))
        self.assertEqual(support.refused(near_sizes, chain, 0), ("TooMany", 160))
        self.assertEqual(near_sizes(chain, 1), (0,) * 11)
        self.assertEqual(near_sizes(level(2, support.chain(16)), 15), (1,) + (0,) * 15)

    def test_sums_with_signs(self):
        for patch in some_patches(9, 80):
            order, sizes = patch[1], patch[2]
            for x, column in enumerate(columns(standing_counts(patch), order[0])):
                self.assertEqual(slow.signed(column), sum(rows_to(order, x, y) * sizes[y] for y in range(order[0])))

    def test_holes_and_counts(self):
        for patch in some_patches(10, 80):
            counts, sizes = standing_counts(patch), hole_sizes(patch)
            self.assertEqual(slow.signed(sum(line) for line in counts), slow.signed(sizes))
            for size, line in zip(sizes, counts):
                self.assertLessEqual(size, sum(line))


if __name__ == "__main__":
    unittest.main()
