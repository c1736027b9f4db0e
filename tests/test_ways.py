"""[30], [31], [32]: ways from one patch to another one, signs between spots."""

import random
import unittest

from patchrooms.counts import springing_counts, standing_counts
from patchrooms.holes import hole_sizes
from patchrooms.maps import maps_size
from patchrooms.orders import part_order
from patchrooms.patches import level_patch, lone_patch, springing, standing
from patchrooms.sums import sum_patch
from patchrooms.ways import signs_between, ways_size, ways_sizes
from tests import slow, support

NONE = (7, slow.EMPTY, (), ())


def level(prime, order):
    return level_patch(prime, order, 1)


def rooms(one, other, k):
    """For each row of the length k how many lines and entries a line the table has."""
    return {row: (other[2][row[-1]], one[2][row[0]]) for row in slow.rows(one[1], k)}


def ways_load_size(one, other, k):
    return sum(lines * entries for lines, entries in rooms(one, other, k).values())


def tables(one, other, k, load):
    found, place = {}, 0
    for row, (lines, entries) in rooms(one, other, k).items():
        found[row] = tuple(tuple(load[place + i * entries:place + (i + 1) * entries]) for i in range(lines))
        place += lines * entries
    return found


def way_border(one, other, k, load):
    """By words, table by table."""
    prime, told, column = one[0], tables(one, other, k, load), ()
    for row in slow.rows(one[1], k + 1):
        size = one[2][row[0]]
        made = support.matrix_times(prime, support.lead_table(one, row[0], row[1]), told[row[1:]], size)
        parts = [(1, made)]
        for i in range(1, k + 1):
            parts.append(((-1) ** i, told[row[:i] + row[i + 1:]]))
        led = support.matrix_times(prime, told[row[:-1]], support.lead_table(other, row[-2], row[-1]), size)
        parts.append(((-1) ** (k + 1), led))
        for i in range(other[2][row[-1]]):
            for j in range(size):
                column += (sum(factor * table[i][j] for factor, table in parts) % prime,)
    return column


def sizes_by_words(one, other):
    sizes = [ways_load_size(one, other, k) for k in range(slow.height(one[1]) + 1)]
    return slow.counted(one[0], sizes, lambda k, load: way_border(one, other, k, load))


def has_few(one, other):
    return all(ways_load_size(one, other, k) <= 160 for k in range(slow.height(one[1]) + 1))


def pairs(seed, count, springs=3):
    found = support.patch_pairs(seed, count, orders=slow.ORDERS, springs=springs) + slow.made_pairs(seed, count // 2)
    return [pair for pair in found if has_few(*pair)]


def signs_by_words(order):
    return tuple(tuple(sum((-1) ** k for k in range(slow.height(order) + 1) for row in slow.rows(order, k)
                           if (row[0], row[-1]) == (x, y)) for y in range(order[0])) for x in range(order[0]))


# One at the lows, other at the tops: just 160 entries in the degree 1 or 2, and more.
JUST = slow.flat(3, slow.layers(5, 4), (1,) * 5 + (0,) * 4), slow.flat(3, slow.layers(5, 4), (0,) * 5 + (8,) * 4)
MORE = slow.flat(3, slow.layers(7, 3), (1,) * 7 + (0,) * 3), slow.flat(3, slow.layers(7, 3), (0,) * 7 + (8, 8, 7))
JUST_2 = (slow.flat(5, slow.layers(1, 5, 4), (8,) + (0,) * 9), slow.flat(5, slow.layers(1, 5, 4), (0,) * 6 + (1,) * 4))
MORE_2 = (slow.flat(5, slow.layers(1, 7, 3), (8,) + (0,) * 10), slow.flat(5, slow.layers(1, 7, 3), (0,) * 8 + (1,) * 3))


class SizesTest(unittest.TestCase):

    def test_given(self):
        chain = support.chain(2)
        low, high, whole = lone_patch(5, chain, 0), lone_patch(5, chain, 1), level(5, chain)
        self.assertEqual([[ways_sizes(one, other) for other in (low, high, whole)] for one in (low, high, whole)],
                         [[(1, 0), (0, 1), (0, 0)], [(0, 0), (1, 0), (1, 0)], [(1, 0), (0, 0), (1, 0)]])
        for prime in support.PRIMES:
            crown = level(prime, support.CROWN)
            self.assertEqual(ways_sizes(crown, crown), (1, 1))
            self.assertEqual([ways_size(crown, crown, k) for k in (0, 1, 2, 16, 17)], [1, 1, 0, 0, 0])
            self.assertEqual(ways_sizes(lone_patch(prime, support.DIAMOND, 0), lone_patch(prime, support.DIAMOND, 3)),
                             (0, 0, 1))
        self.assertEqual(ways_sizes(NONE, NONE), ())
        self.assertEqual([ways_size(NONE, NONE, k) for k in (0, 1, 16)], [0, 0, 0])
        nothing = level_patch(5, support.CROWN, 0)
        self.assertEqual(ways_sizes(nothing, level(5, support.CROWN)), (0, 0))
        self.assertEqual(ways_sizes(level(5, support.CROWN), nothing), (0, 0))
        self.assertEqual(ways_sizes((2, (1, ()), (3,), ()), (2, (1, ()), (5,), ())), (15,))

    def test_by_words(self):
        seen = set()
        for one, other in pairs(1, 120):
            found = ways_sizes(one, other)
            self.assertTrue(support.is_plain(found))
            self.assertEqual(found, sizes_by_words(one, other))
            for k in range(len(found) + 2):
                self.assertEqual(ways_size(one, other, k), found[k] if k < len(found) else 0)
            self.assertEqual(ways_size(one, other, 16), 0)
            seen |= {(one[0], k) for k, size in enumerate(found) if size}
        self.assertLessEqual({(prime, k) for prime in support.PRIMES for k in (0, 1)}, seen)
        self.assertIn(2, {k for _, k in seen})

    def test_degree_0_are_maps(self):
        for one, other in pairs(2, 100):
            self.assertEqual(ways_size(one, other, 0), maps_size(one, other))

    def test_from_the_level_patch(self):
        for patch in slow.patches(3, 60) + slow.made_patches(3, 60):
            self.assertEqual(ways_sizes(level(*patch[:2]), patch), hole_sizes(patch))

    def test_lone_patches_and_counts(self):
        for patch in slow.patches(4, 60) + slow.made_patches(4, 40):
            prime, order = patch[:2]
            standings, springings = standing_counts(patch), springing_counts(patch)
            for x in range(order[0]):
                lone = lone_patch(prime, order, x)
                self.assertEqual(ways_sizes(lone, patch), tuple(line[x] for line in standings))
                self.assertEqual(ways_sizes(patch, lone), tuple(line[x] for line in springings))

    def test_from_springing_and_to_standing(self):
        for patch in slow.patches(5, 60) + slow.made_patches(5, 40):
            prime, order, sizes, _ = patch
            for x in range(order[0]):
                expected = (sizes[x],) + (0,) * slow.height(order)
                self.assertEqual(ways_sizes(springing(prime, order, x), patch), expected)
                self.assertEqual(ways_sizes(patch, standing(prime, order, x)), expected)

    def test_sums(self):
        rng = random.Random(6)
        for one, other in pairs(6, 80, springs=2):
            third = slow.made_patch(rng, one[0], one[1], 1)
            for first, second in (((sum_patch(one, third), other), ((one, other), (third, other))),
                                  ((one, sum_patch(other, third)), ((one, other), (one, third)))):
                if has_few(*first):
                    found = [ways_sizes(*pair) for pair in second]
                    self.assertEqual(ways_sizes(*first), tuple(a + b for a, b in zip(*found)))

    def test_sums_with_signs(self):
        for one, other in pairs(7, 100):
            signs = signs_by_words(one[1])
            n = one[1][0]
            self.assertEqual(slow.signed(ways_sizes(one, other)),
                             sum(one[2][x] * other[2][y] * signs[x][y] for x in range(n) for y in range(n)))

    def test_between_lone_patches(self):
        """[32]."""
        for order in slow.ORDERS + slow.HOLED + (slow.layers(1, 2, 2, 1), slow.layers(1, 3, 1)):
            pairs_below = set(order[1])
            for x, y in order[1]:
                between = tuple(z for z in range(order[0]) if (x, z) in pairs_below and (z, y) in pairs_below)
                for prime in (2, 5):
                    found = ways_sizes(lone_patch(prime, order, x), lone_patch(prime, order, y))
                    part = hole_sizes(level(prime, part_order(order, between))) + (0,) * len(found)
                    self.assertEqual(found[:2], (0, int(not between)))
                    for k in range(2, len(found)):
                        self.assertEqual(found[k], part[k - 2] - (k == 2 and bool(between)))

    def test_not_fit(self):
        crown = level(5, support.CROWN)
        for other in (level(3, support.CROWN), level(5, support.DIAMOND), level(5, support.antichain(4)), NONE):
            for k in (0, 1, 16):
                self.assertEqual(support.refused(ways_size, crown, other, k), ("NotFit",))
                self.assertEqual(support.refused(ways_size, other, crown, k), ("NotFit",))
            self.assertEqual(support.refused(ways_sizes, crown, other), ("NotFit",))
            self.assertEqual(support.refused(ways_sizes, other, crown), ("NotFit",))
        # Ahead of too many loads.
        one, other = level(5, support.chain(16)), level(3, support.chain(16))
        self.assertEqual(support.refused(ways_size, one, other, 0), ("NotFit",))
        self.assertEqual(support.refused(ways_sizes, one, other), ("NotFit",))

    def test_bound(self):
        self.assertEqual(ways_sizes(*JUST), (0, 160))
        self.assertEqual(ways_sizes(*JUST_2), (0, 0, 128))
        antichain = support.antichain(3)
        self.assertEqual(ways_sizes(slow.flat(2, antichain, (8, 8, 8)), slow.flat(2, antichain, (8, 8, 4))), (160,))
        wide = slow.flat(2, antichain, (8, 8, 7)), slow.flat(2, antichain, (8, 8, 5))
        for one, other in (MORE, MORE_2, wide, (level(2, support.chain(12)),) * 2):
            self.assertEqual(support.refused(ways_sizes, one, other), ("TooMany", 160))
            for k in (0, 1, 2, 16):
                self.assertEqual(support.refused(ways_size, one, other, k), ("TooMany", 160))

    def test_loads_of_each_alone_are_not_looked_at(self):
        self.assertEqual(support.refused(hole_sizes, slow.MORE), ("TooMany", 160))
        order = slow.MORE[1]
        self.assertEqual(ways_sizes(lone_patch(3, order, 9), slow.MORE), (7, 0))
        self.assertEqual(ways_sizes(lone_patch(3, order, 0), slow.MORE), (0, 23))
        chain = support.chain(16)
        self.assertEqual(ways_sizes(level(2, chain), lone_patch(2, chain, 2)), (0,) * 16)
        self.assertEqual(ways_sizes(lone_patch(2, chain, 0), lone_patch(2, chain, 1)), (0, 1) + (0,) * 14)
        self.assertEqual(ways_sizes(lone_patch(2, chain, 5), lone_patch(2, chain, 5)), (1,) + (0,) * 15)


class SignsTest(unittest.TestCase):

    def test_given(self):
        self.assertEqual(signs_between(slow.EMPTY), ())
        self.assertEqual(signs_between((1, ())), ((1,),))
        self.assertEqual(signs_between(support.chain(3)), ((1, -1, 0), (0, 1, -1), (0, 0, 1)))
        self.assertEqual(signs_between(support.DIAMOND), ((1, -1, -1, 1), (0, 1, 0, -1), (0, 0, 1, -1), (0, 0, 0, 1)))
        self.assertEqual(signs_between(support.order(2, (1, 0))), ((1, 0), (-1, 1)))
        self.assertEqual(signs_between(slow.layers(1, 5, 1))[0], (1, -1, -1, -1, -1, -1, 4))
        self.assertEqual(signs_between(support.chain(16)), tuple(
            tuple(int(x == y) - int(x + 1 == y) for y in range(16)) for x in range(16)))

    def test_by_words(self):
        rng = random.Random(8)
        for order in slow.ORDERS + slow.HOLED + tuple(support.random_order(rng, 7, 0.4) for _ in range(40)):
            found = signs_between(order)
            self.assertTrue(support.is_plain(found))
            self.assertEqual(found, signs_by_words(order))


if __name__ == "__main__":
    unittest.main()
