"""[40], [41]: patches upside down, low holes, round orders."""

import random
import unittest

from patchrooms.counts import springing_counts, standing_counts
from patchrooms.duals import dual_map, dual_patch, is_round, low_hole_sizes, neighbourhood
from patchrooms.errors import TooMany
from patchrooms.holes import hole_sizes
from patchrooms.leadings import product_order
from patchrooms.maps import behind_map, kernel_patch, map_space, maps_size, need_map, rest_patch, still_map
from patchrooms.moved import gathered_patch
from patchrooms.patches import level_patch, lone_patch, need_patch, springing, standing
from patchrooms.splits import is_same
from patchrooms.sums import sum_patch
from tests import slow, support
from tests.test_counts import dual
from tests.test_moved import some_map

NONE = (7, slow.EMPTY, (), ())
POINT = (1, ())
TORUS = product_order(support.CROWN, support.CROWN)
# Its level patch has just 160 loads of the degree 2, that of the other one has more.
LAYERS_JUST, LAYERS_MORE = slow.layers(4, 4, 4, 2), slow.layers(4, 4, 4, 3)
TWO_CROWNS = (8, support.CROWN[1] + tuple((x + 4, y + 4) for x, y in support.CROWN[1]))


def tetrahedron():
    """The four corners, six edges and four faces of a skin of the degree 2."""
    faces = [set(spots) for spots in support.subsets(4) if 0 < len(spots) < 4]
    faces.sort(key=lambda face: (len(face), sorted(face)))
    return 14, tuple((x, y) for x in range(14) for y in range(14) if faces[x] < faces[y])


def twisted():
    """Crowns over the spots of a crown, one of them turned over along one pair: round, but not to be laid flat."""
    flip = (1, 0, 2, 3)
    pairs = []
    for x, y in support.CROWN[1]:
        for a in range(4):
            for b in range(4):
                led = flip[a] if (x, y) == (1, 3) else a
                if slow.is_below(support.CROWN, led, b):
                    pairs.append((4 * x + a, 4 * y + b))
    return 16, support.closed(16, pairs + [(4 * x + a, 4 * x + b) for x in range(4) for a, b in support.CROWN[1]])


# Orders with the degree of which they are round.
ROUND = ((POINT, 0), (support.antichain(3), 0), (support.antichain(16), 0), (support.CROWN, 1), (support.HEXAGON, 1),
         (TWO_CROWNS, 1), (support.DOUBLE_CROWN, 2), (tetrahedron(), 2), (slow.halved_cube(), 2), (TORUS, 2),
         (twisted(), 2), (slow.layers(2, 2, 2, 2), 3), (slow.layers(2, 2, 2, 2, 2), 4))
# Orders that are round of no degree.
NOT_ROUND = (support.chain(2), support.chain(3), support.VEE, support.ROOF, support.ENN, support.DIAMOND, slow.BROAD,
             slow.MIXED, slow.TALL, slow.layers(3, 2), slow.layers(2, 2, 1), slow.layers(3, 3), slow.layers(2, 3, 2),
             (5, support.CROWN[1]), (6, support.CROWN[1] + ((4, 5),)), slow.layers(3, 3, 3))


def first_load_size(patch, k):
    return sum(patch[2][row[0]] for row in slow.rows(patch[1], k))


def low_border(patch, k, load):
    """By words: what is told for each row, put at the rows without one spot; degree k to degree k - 1."""
    prime, rows = patch[0], slow.rows(patch[1], k)
    told = dict(zip(rows, support.split_at([patch[2][row[0]] for row in rows], load)))
    found = {row: (0,) * patch[2][row[0]] for row in slow.rows(patch[1], k - 1)}
    for row, column in told.items():
        for i in range(k + 1):
            less = row[:i] + row[i + 1:]
            led = support.times(prime, support.lead_table(patch, row[0], row[1]), column) if i == 0 else column
            found[less] = slow.added(prime, found[less], led, (-1) ** i)
    return tuple(entry for row in slow.rows(patch[1], k - 1) for entry in found[row])


def low_by_words(patch):
    top = slow.height(patch[1])
    ranks = [0]
    for k in range(1, top + 1):
        ranks.append(support.rank_of(patch[0], [low_border(patch, k, load)
                                                for load in slow.units(first_load_size(patch, k))]))
    ranks.append(0)
    return tuple(first_load_size(patch, k) - ranks[k] - ranks[k + 1] for k in range(top + 1))


class DualTest(unittest.TestCase):

    def test_given(self):
        vee = (5, support.VEE, (1, 2, 1), (((2,), (3,)), ((4,),)))
        self.assertEqual(dual_patch(vee), (5, (3, ((1, 0), (2, 0))), (1, 2, 1), (((2, 3),), ((4,),))))
        chain = (7, support.chain(3), (1, 2, 1), (((2,), (3,)), ((5,),), ((1, 1),)))
        self.assertEqual(dual_patch(chain), (7, (3, ((1, 0), (2, 0), (2, 1))), (1, 2, 1),
                                             (((2, 3),), ((5,),), ((1,), (1,)))))
        # Tables without lines become ones without entries, and the other way.
        self.assertEqual(dual_patch((3, support.chain(2), (2, 0), ((),))),
                         (3, (2, ((1, 0),)), (2, 0), (((), ()),)))
        self.assertEqual(dual_patch((3, support.chain(2), (0, 2), (((), ()),))), (3, (2, ((1, 0),)), (0, 2), ((),)))
        self.assertEqual(dual_patch(NONE), NONE)

    def test_by_words(self):
        for patch in support.patches(1, 90, orders=slow.ORDERS) + slow.made_patches(1, 60):
            found = dual_patch(patch)
            self.assertEqual(found, dual(patch))
            self.assertEqual(need_patch(found), found)
            self.assertTrue(support.is_plain(found))
            self.assertEqual(dual_patch(found), patch)

    def test_some_duals(self):
        for prime in support.PRIMES:
            for order in slow.ORDERS:
                low = (order[0], tuple(sorted((y, x) for x, y in order[1])))
                self.assertEqual(dual_patch(level_patch(prime, order, 1)), level_patch(prime, low, 1))
                for x in range(order[0]):
                    self.assertEqual(dual_patch(standing(prime, order, x)), springing(prime, low, x))
                    self.assertEqual(dual_patch(lone_patch(prime, order, x)), lone_patch(prime, low, x))

    def test_sums(self):
        for one, other in support.patch_pairs(2, 40, orders=slow.ORDERS):
            if not support.refused(sum_patch, one, other):
                self.assertEqual(dual_patch(sum_patch(one, other)), sum_patch(dual_patch(one), dual_patch(other)))

    def test_counts_of_the_dual(self):
        for patch in slow.patches(3, 40) + slow.made_patches(3, 30):
            if not support.refused(springing_counts, patch):
                self.assertEqual(springing_counts(patch), standing_counts(dual_patch(patch)))


class DualMapTest(unittest.TestCase):

    def test_given(self):
        one = (5, support.chain(2), (1, 2), (((1,), (2,)),))
        other = (5, support.chain(2), (1, 1), (((3,),),))
        led = (((2,),), ((0, 3),))
        self.assertEqual(need_map(one, other, led), led)
        self.assertEqual(dual_map(one, other, led), (((2,),), ((0,), (3,))))
        nothing = level_patch(5, support.chain(2), 0)
        self.assertEqual(dual_map(one, nothing, ((), ())), (((),), ((), ())))
        self.assertEqual(dual_map(nothing, one, (((),), ((), ()))), ((), ()))
        self.assertEqual(dual_map(NONE, NONE, ()), ())

    def pairs(self, seed):
        found = support.patch_pairs(seed, 60, orders=slow.ORDERS) + slow.made_pairs(seed, 60)
        return [pair for pair in found if not support.refused(map_space, *pair)]

    def test_by_words(self):
        rng, seen = random.Random(1), 0
        for one, other in self.pairs(1):
            led = some_map(rng, one, other)
            found = dual_map(one, other, led)
            self.assertTrue(support.is_plain(found))
            self.assertEqual(need_map(dual(other), dual(one), found), found)
            for x, table in enumerate(led):
                for i, line in enumerate(table):
                    for j, entry in enumerate(line):
                        self.assertEqual(found[x][j][i], entry)
                        seen += entry != 0
            self.assertEqual(dual_map(dual(other), dual(one), found), led)
            self.assertEqual(dual_map(one, one, still_map(one)), still_map(one))
        self.assertGreater(seen, 60)

    def test_as_many_maps(self):
        for one, other in self.pairs(2):
            self.assertEqual(maps_size(one, other), maps_size(dual_patch(other), dual_patch(one)))

    def test_one_behind_the_other(self):
        rng = random.Random(3)
        for one, other in self.pairs(3):
            third = dual_patch(dual_patch(one))
            first, second = some_map(rng, one, other), some_map(rng, other, third)
            found = dual_map(one, third, behind_map(one, other, third, first, second))
            self.assertEqual(found, behind_map(dual(third), dual(other), dual(one), dual_map(other, third, second),
                                               dual_map(one, other, first)))

    def test_kernel_and_rest_are_exchanged(self):
        rng, seen = random.Random(4), 0
        for one, other in self.pairs(4):
            led = some_map(rng, one, other)
            turned = dual(other), dual(one), dual_map(one, other, led)
            for kept, made in ((kernel_patch(*turned), dual_patch(rest_patch(one, other, led))),
                               (dual_patch(kernel_patch(one, other, led)), rest_patch(*turned))):
                self.assertEqual(kept[2], made[2])
                if not support.refused(is_same, kept, made):
                    self.assertTrue(is_same(kept, made))
                    seen += any(kept[2]) and any(any(map(any, table)) for table in kept[3])
        self.assertGreater(seen, 10)


class LowTest(unittest.TestCase):

    def test_given(self):
        for prime in support.PRIMES:
            self.assertEqual(low_hole_sizes(level_patch(prime, support.CROWN, 1)), (1, 1))
            self.assertEqual(low_hole_sizes(level_patch(prime, slow.halved_cube(), 1)),
                             (1, 1, 1) if prime == 2 else (1, 0, 0))
            # Springing patches have low holes of the degree 0 alone, standing ones may have others.
            self.assertEqual(low_hole_sizes(springing(prime, support.VEE, 0)), (1, 0))
            self.assertEqual(low_hole_sizes(lone_patch(prime, support.VEE, 0)), (0, 1))
            self.assertEqual(low_hole_sizes(lone_patch(prime, support.VEE, 1)), (1, 0))
        self.assertEqual(low_hole_sizes(NONE), ())
        self.assertEqual(low_hole_sizes((3, POINT, (4,), ())), (4,))

    def test_by_words(self):
        kinds = set()
        for patch in slow.patches(5, 90) + slow.made_patches(5, 90):
            if slow.most_loads(dual(patch)) <= 160:
                found = low_hole_sizes(patch)
                self.assertTrue(support.is_plain(found))
                self.assertEqual(found, low_by_words(patch))
                self.assertEqual(found, hole_sizes(dual_patch(patch)))
                kinds.add(found)
        self.assertGreater(len(kinds), 12)
        self.assertTrue(any(len(sizes) > 2 and sizes[2] for sizes in kinds))

    def test_degree_0_is_gathered(self):
        seen = 0
        for patch in slow.patches(6, 90) + slow.made_patches(6, 90):
            if slow.most_loads(dual(patch)) <= 160 and patch[1][0]:
                try:
                    gathered = gathered_patch(patch, POINT, (0,) * patch[1][0])
                except TooMany:
                    continue
                self.assertEqual(low_hole_sizes(patch)[0], gathered[2][0])
                seen += gathered[2][0] > 0
        self.assertGreater(seen, 60)

    def test_loads_of_the_dual_alone(self):
        for just, more in ((slow.JUST, slow.MORE), (slow.JUST_2, slow.MORE_2)):
            self.assertIsNone(support.refused(hole_sizes, just))
            self.assertEqual(support.refused(hole_sizes, more), ("TooMany", 160))
            # Of the dual the loads stand at spots below all others.
            self.assertEqual(low_hole_sizes(more), (sum(more[2]),) + (0,) * slow.height(more[1]))
            self.assertEqual(support.refused(low_hole_sizes, dual(more)), ("TooMany", 160))
            self.assertEqual(low_hole_sizes(dual(just)), hole_sizes(just))


class RoundTest(unittest.TestCase):

    def by_words(self, prime, order, d):
        for k in range(slow.height(order) + 1):
            for row in slow.rows(order, k):
                near = tuple(x for x in range(order[0])
                             if all((x, y) in order[1] or (y, x) in order[1] for y in row))
                sizes = slow.trimmed(slow.hole_sizes(slow.cut(slow.ones(prime, order, range(order[0])), near)))
                m = d - len(row)
                if m < -1 or (m == -1 and near) or (m == 0 and sizes != (2,)):
                    return False
                if m > 0 and sizes != (1,) + (0,) * (m - 1) + (1,):
                    return False
        return True

    def test_given(self):
        for prime in support.PRIMES:
            for order, degree in ROUND:
                self.assertEqual([is_round(prime, order, d) for d in range(7)], [d == degree for d in range(7)])
            for order in NOT_ROUND:
                self.assertEqual([is_round(prime, order, d) for d in range(7)], [False] * 7)
            self.assertEqual([is_round(prime, slow.EMPTY, d) for d in range(7)], [True] * 7)
            self.assertIs(is_round(prime, support.CROWN, 1), True)
            self.assertIs(is_round(prime, support.CROWN, 0), False)

    def test_small_orders_by_words(self):
        count = 0
        for n in range(5):
            for order in support.all_orders(n):
                for d in range(3):
                    expected = self.by_words(2, order, d)
                    self.assertEqual(is_round(2, order, d), expected, (order, d))
                    count += expected
        # Antichains, crowns in each numbering, and the order without spots of each degree.
        self.assertEqual(count, 3 + 4 + 6)

    def test_by_words(self):
        rng = random.Random(7)
        orders = [support.random_order(rng, rng.randint(3, 6), 0.5) for _ in range(40)] + list(slow.HOLED)
        orders += [slow.layers(2, 2, 2, 3), slow.layers(2, 1, 2), slow.layers(1, 2, 2), tetrahedron()]
        # A crown with a spot above all, and one with a spot that is above one low spot alone.
        orders += [support.order(5, (0, 2), (0, 3), (1, 2), (1, 3), (0, 4))]
        for k, order in enumerate(orders):
            for d in range(4):
                self.assertEqual(is_round(support.PRIMES[k % 6], order, d),
                                 self.by_words(support.PRIMES[k % 6], order, d))

    def test_rows_that_are_too_long(self):
        # A lone row of two spots has nothing beside it, but is longer than a row of a round order of the degree 0.
        self.assertFalse(is_round(3, support.chain(2), 0))
        self.assertFalse(is_round(3, (6, support.CROWN[1] + ((4, 5),)), 1))
        # Rows of the length 2 beside rows of the length 1 that are as they should be.
        self.assertFalse(is_round(2, (10, support.CROWN[1] + tuple((x + 4, y + 4)
                                                                   for x, y in support.DOUBLE_CROWN[1])), 1))

    def test_read_from_both_ends(self):
        for order, degree in ROUND:
            sizes = hole_sizes(level_patch(2, order, 1))
            self.assertEqual(len(sizes), degree + 1)
            self.assertEqual(sizes, sizes[::-1])
        self.assertEqual(hole_sizes(level_patch(2, TORUS, 1)), (1, 2, 1))
        self.assertEqual(hole_sizes(level_patch(2, twisted(), 1)), (1, 2, 1))
        self.assertEqual(hole_sizes(level_patch(3, twisted(), 1)), (1, 1, 0))

    def test_bounds(self):
        self.assertEqual(slow.most_loads(level_patch(2, LAYERS_JUST, 1)), 160)
        for d in (0, 2, 3, 6):
            self.assertIs(is_round(2, LAYERS_JUST, d), False)
            self.assertEqual(support.refused(is_round, 2, LAYERS_MORE, d), ("TooMany", 160))
            # Also where some row is too long, whatever stands beside it.
            self.assertEqual(support.refused(is_round, 13, support.chain(16), d), ("TooMany", 160))


class NeighbourhoodTest(unittest.TestCase):

    def test_given(self):
        self.assertEqual(neighbourhood(support.CROWN, (0,)), (2, 3))
        self.assertEqual(neighbourhood(support.CROWN, (2,)), (0, 1))
        self.assertEqual(neighbourhood(support.CROWN, (0, 2)), ())
        self.assertEqual(neighbourhood(support.chain(4), (1,)), (0, 2, 3))
        self.assertEqual(neighbourhood(support.chain(4), (1, 3)), (0, 2))
        self.assertEqual(neighbourhood(support.DIAMOND, (1,)), (0, 3))
        self.assertEqual(neighbourhood(support.DIAMOND, (0, 3)), (1, 2))
        self.assertEqual(neighbourhood(support.antichain(3), (1,)), ())

    def test_by_words(self):
        for order in slow.ORDERS + (slow.halved_cube(), LAYERS_MORE):
            for k in range(slow.height(order) + 1):
                for row in slow.rows(order, k):
                    found = neighbourhood(order, row)
                    self.assertTrue(support.is_plain(found))
                    expected = [x for x in range(order[0]) if x not in row
                                and all((x, y) in order[1] or (y, x) in order[1] for y in row)]
                    self.assertEqual(found, tuple(expected))

    def test_nothing_is_raised(self):
        chain = support.chain(16)
        self.assertEqual(neighbourhood(chain, (7,)), tuple(x for x in range(16) if x != 7))
        self.assertEqual(neighbourhood(chain, tuple(range(16))), ())


if __name__ == "__main__":
    unittest.main()
