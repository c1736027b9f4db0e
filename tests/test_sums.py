"""[15], [16], [17]: sums, products, rooms of maps."""

import random
import unittest

from patchrooms.leadings import beside_order, product_order
from patchrooms.maps import map_space, maps_size
from patchrooms.orders import up_of
from patchrooms.patches import cut_patch, level_patch, patch_breach, springing, standing
from patchrooms.splits import is_same
from patchrooms.sums import beside_patch, maps_patch, mixed_patch, outer_patch, sum_patch
from patchrooms.tellings import tellings
from tests import support

EMPTY = (3, (0, ()), (), ())
ALL = (sum_patch, mixed_patch, maps_patch, outer_patch, beside_patch)
ONE_ORDER = ALL[:3]


def flat(prime, *sizes):
    """Over spots that are not comparable."""
    return prime, (len(sizes), ()), sizes, ()


def mixed(prime, one, other):
    return tuple(a * b % prime for a in one for b in other)


def told(function, *arguments):
    """What it returns, or None where it refuses."""
    return None if support.refusal(function, *arguments) else function(*arguments)


class FitTest(unittest.TestCase):

    def test_unlike_orders_or_primes(self):
        big = flat(2, 8, 8, 8, 8, 8)
        bound = (2, support.order(5, (0, 1)), (8,) * 5, (support.identity(8),))
        for other in (flat(3, 8, 8, 8, 8, 8), flat(2, 8, 8, 8, 8), bound, flat(2)):
            for function in ONE_ORDER:
                self.assertEqual(support.refused(function, big, other), ("NotFit",), function)
                self.assertEqual(support.refused(function, other, big), ("NotFit",), function)

    def test_unlike_primes_alone(self):
        for function in (outer_patch, beside_patch):
            self.assertEqual(support.refused(function, flat(2, 1), flat(3, 1)), ("NotFit",))
            # Ahead of too many spots, and of sizes that are too great.
            self.assertEqual(support.refused(function, level_patch(2, (16, ()), 2), level_patch(3, (16, ()), 2)),
                             ("NotFit",))
            self.assertEqual(support.refused(function, flat(5, 8, 8, 8), flat(7, 8, 8, 8)), ("NotFit",))
            self.assertIsNone(support.refused(function, flat(2, 1), (2, support.chain(2), (1, 1), (((1,),),))))


class SumTest(unittest.TestCase):

    def test_given(self):
        one = (5, support.chain(2), (1, 2), (((2,), (3,)),))
        other = (5, support.chain(2), (2, 1), (((1, 4),),))
        self.assertEqual(sum_patch(one, other), (5, support.chain(2), (3, 3), (((2, 0, 0), (3, 0, 0), (0, 1, 4)),)))
        self.assertEqual(sum_patch(other, one), (5, support.chain(2), (3, 3), (((1, 4, 0), (0, 0, 2), (0, 0, 3)),)))
        self.assertEqual(sum_patch(EMPTY, EMPTY), EMPTY)
        none = level_patch(5, support.chain(2), 0)
        self.assertEqual(sum_patch(one, none), one)
        self.assertEqual(sum_patch(none, one), one)

    def test_each_is_led_by_its_own(self):
        rng = random.Random(1)
        for one, other in support.patch_pairs(1, 120):
            found = sum_patch(one, other)
            self.assertTrue(support.is_plain(found))
            self.assertIsNone(patch_breach(found))
            self.assertEqual(found[:3], one[:2] + (tuple(a + b for a, b in zip(one[2], other[2])),))
            for place, (x, y) in enumerate(one[1][1]):
                first = support.random_column(rng, one[0], one[2][x])
                second = support.random_column(rng, one[0], other[2][x])
                self.assertEqual(support.times(one[0], found[3][place], first + second),
                                 support.times(one[0], one[3][place], first)
                                 + support.times(one[0], other[3][place], second))

    def test_bounds(self):
        self.assertEqual(sum_patch(flat(2, 8, 8, 8, 4, 0), flat(2, 0, 0, 0, 4, 8))[2], (8,) * 5)
        self.assertEqual(support.refused(sum_patch, flat(2, 8, 8, 8, 4, 0, 1), flat(2, 0, 0, 0, 4, 8, 0)),
                         ("TooMany", 40))
        self.assertEqual(support.refused(sum_patch, flat(2, 8), flat(2, 1)), ("TooMany", 8))
        self.assertEqual(support.refused(sum_patch, flat(2, 8, 8), flat(2, 8, 8)), ("TooMany", 8))
        self.assertEqual(support.refused(sum_patch, flat(2, 8, 8, 8), flat(2, 8, 8, 8)), ("TooMany", 40))
        self.assertEqual(sum_patch(flat(2, 5, 3), flat(2, 3, 5))[2], (8, 8))
        # 40 in all, but 9 at a spot.
        self.assertEqual(support.refused(sum_patch, flat(2, 8, 8, 8, 8, 0), flat(2, 1, 0, 0, 0, 7)), ("TooMany", 8))


class MixedTest(unittest.TestCase):

    def test_given(self):
        one = (5, support.chain(2), (1, 2), (((2,), (3,)),))
        other = (5, support.chain(2), (2, 2), (((1, 4), (0, 2)),))
        self.assertEqual(mixed_patch(one, other), (5, support.chain(2), (2, 4), (((2, 3), (0, 4), (3, 2), (0, 1)),)))
        self.assertEqual(mixed_patch(other, one), (5, support.chain(2), (2, 4), (((2, 3), (3, 2), (0, 4), (0, 1)),)))
        self.assertEqual(mixed_patch(EMPTY, EMPTY), EMPTY)
        none = level_patch(5, support.chain(2), 0)
        self.assertEqual(mixed_patch(one, none), none)

    def test_mixed_columns_are_led_to_those_of_both_led(self):
        rng = random.Random(2)
        seen = 0
        for one, other in support.patch_pairs(3, 200, springs=4):
            found = told(mixed_patch, one, other)
            sizes = tuple(a * b for a, b in zip(one[2], other[2]))
            if found is None:
                self.assertTrue(sum(sizes) > 40 or max(sizes) > 8)
                continue
            self.assertTrue(support.is_plain(found))
            self.assertIsNone(patch_breach(found))
            self.assertEqual(found[:3], one[:2] + (sizes,))
            for place, (x, y) in enumerate(one[1][1]):
                first = support.random_column(rng, one[0], one[2][x])
                second = support.random_column(rng, one[0], other[2][x])
                seen += any(first) and any(second)
                self.assertEqual(support.times(one[0], found[3][place], mixed(one[0], first, second)),
                                 mixed(one[0], support.times(one[0], one[3][place], first),
                                       support.times(one[0], other[3][place], second)))
        self.assertGreater(seen, 60)

    def test_the_level_patch_changes_nothing(self):
        for patch in support.patches(4, 100, springs=6):
            level = level_patch(patch[0], patch[1], 1)
            self.assertEqual(mixed_patch(level, patch), patch)
            self.assertEqual(mixed_patch(patch, level), patch)

    def test_bounds(self):
        self.assertEqual(mixed_patch(flat(2, 2, 4, 8, 1, 8), flat(2, 4, 2, 1, 8, 1))[2], (8,) * 5)
        self.assertEqual(support.refused(mixed_patch, flat(2, 2, 4, 8, 1, 8, 1), flat(2, 4, 2, 1, 8, 1, 1)),
                         ("TooMany", 40))
        self.assertEqual(support.refused(mixed_patch, flat(2, 3), flat(2, 3)), ("TooMany", 8))
        self.assertEqual(support.refused(mixed_patch, flat(2, 8, 0), flat(2, 5, 8)), ("TooMany", 8))
        self.assertEqual(support.refused(mixed_patch, flat(2, 7), flat(2, 6)), ("TooMany", 40))
        self.assertEqual(support.refused(mixed_patch, flat(2, 5, 4), flat(2, 8, 1)), ("TooMany", 40))


class MapsPatchTest(unittest.TestCase):

    def test_given(self):
        two = support.chain(2)
        one = (5, two, (1, 1), (((2,),),))
        self.assertEqual(maps_patch(one, level_patch(5, two, 1)), (5, two, (1, 1), (((3,),),)))
        self.assertEqual(maps_patch(EMPTY, EMPTY), EMPTY)
        self.assertEqual(maps_patch(flat(3, 2), flat(3, 3)), flat(3, 6))
        low = (3, two, (2, 1), (((1, 2),),))
        self.assertEqual(maps_patch(low, level_patch(3, two, 1)), (3, two, (1, 1), (((1,),),)))
        self.assertEqual(maps_patch(level_patch(3, two, 0), low), level_patch(3, two, 0))

    def test_by_words(self):
        seen = 0
        for one, other in support.patch_pairs(5, 120):
            found = told(maps_patch, one, other)
            if found is None:
                continue
            prime, order = one[:2]
            self.assertTrue(support.is_plain(found))
            self.assertIsNone(patch_breach(found))
            self.assertEqual(found[:2], (prime, order))
            upper = [up_of(order, x) for x in range(order[0])]
            cuts = [(cut_patch(one, spots), cut_patch(other, spots)) for spots in upper]
            bases = [map_space(*pair) for pair in cuts]
            self.assertEqual(found[2], tuple(len(basis) for basis in bases))
            for place, (x, y) in enumerate(order[1]):
                for k, column in enumerate(bases[x]):
                    seen += 1
                    tables = support.tables_of(cuts[x][0], cuts[x][1], column)
                    fewer = support.column_of(table for spot, table in zip(upper[x], tables) if spot in upper[y])
                    parts = tuple(line[k] for line in found[3][place])
                    size = len(fewer)
                    made = tuple(sum(a * b[i] for a, b in zip(parts, bases[y])) % prime for i in range(size))
                    self.assertEqual(made, fewer)
        self.assertGreater(seen, 100)

    def test_its_tellings_are_the_maps(self):
        for one, other in support.patch_pairs(6, 120):
            found = told(maps_patch, one, other)
            if found is not None:
                spots = tuple(range(one[1][0]))
                self.assertEqual(len(tellings(found, spots)), maps_size(one, other))

    def test_maps_of_mixed_patches(self):
        rng = random.Random(7)
        seen = 0
        for one, other in support.patch_pairs(7, 150):
            third = support.random_patch(rng, one[0], one[1], 3, 1)
            both, room = told(mixed_patch, one, other), told(maps_patch, other, third)
            if both is not None and room is not None:
                seen += 1
                self.assertEqual(maps_size(both, third), maps_size(one, room))
        self.assertGreater(seen, 80)

    def test_maps_of_the_level_patch(self):
        seen = 0
        for patch in support.patches(8, 120):
            room = maps_patch(level_patch(patch[0], patch[1], 1), patch)
            self.assertEqual(room[2], patch[2])
            answer = told(is_same, room, patch)
            if answer is not None:
                seen += 1
                self.assertIs(answer, True)
        self.assertGreater(seen, 60)

    def test_springing_and_standing(self):
        for patch in support.patches(9, 80, springs=5):
            prime, order, sizes, _ = patch
            for x in range(order[0]):
                self.assertEqual(maps_size(springing(prime, order, x), patch), sizes[x])
                self.assertEqual(maps_size(patch, standing(prime, order, x)), sizes[x])

    def test_bounds(self):
        self.assertEqual(maps_patch(flat(2, 2, 4, 8, 1, 8), flat(2, 4, 2, 1, 8, 1))[2], (8,) * 5)
        self.assertEqual(support.refused(maps_patch, flat(2, 2, 4, 8, 1, 8, 1), flat(2, 4, 2, 1, 8, 1, 1)),
                         ("TooMany", 40))
        self.assertEqual(support.refused(maps_patch, flat(2, 3), flat(2, 3)), ("TooMany", 8))
        self.assertEqual(support.refused(maps_patch, flat(2, 7), flat(2, 6)), ("TooMany", 40))

    def test_160_entries_over_the_up_set_of_a_spot(self):
        # Spot 0, of the size 0, is below all others, so all entries stand over its up set.
        order = support.order(11, *[(0, x) for x in range(1, 11)])
        just = (2, order, (0,) + (4,) * 10, tuple(((),) * 4 for _ in range(10)))
        self.assertEqual(support.refused(maps_patch, just, just), ("TooMany", 40))
        order = support.order(5, *[(0, x) for x in range(1, 5)])
        one = (3, order, (0, 8, 8, 8, 3), tuple(((),) * size for size in (8, 8, 8, 3)))
        other = (3, order, (0, 8, 8, 3, 3), tuple(((),) * size for size in (8, 8, 3, 3)))
        self.assertEqual(support.refused(maps_patch, one, other), ("TooMany", 160))

    def test_more_than_160_entries_but_not_over_one_up_set(self):
        # Over each low spot the maps are zeros, since the other one leads on and this one does not.
        order = support.order(5, (0, 4), (1, 4), (2, 4), (3, 4))
        one = (2, order, (8, 8, 8, 8, 0), ((),) * 4)
        other = (2, order, (8,) * 5, (support.identity(8),) * 4)
        self.assertEqual(support.refused(maps_size, one, other), ("TooMany", 160))
        self.assertEqual(maps_patch(one, other), level_patch(2, order, 0))


class OuterTest(unittest.TestCase):

    def test_given(self):
        one = (5, support.chain(2), (1, 2), (((2,), (3,)),))
        other = (5, (1, ()), (2,), ())
        self.assertEqual(outer_patch(one, other), (5, support.chain(2), (2, 4), (((2, 0), (0, 2), (3, 0), (0, 3)),)))
        self.assertEqual(outer_patch(other, one), (5, support.chain(2), (2, 4), (((2, 0), (3, 0), (0, 2), (0, 3)),)))
        self.assertEqual(outer_patch(EMPTY, flat(3, 8, 8)), EMPTY)
        self.assertEqual(outer_patch(flat(3, 8, 8), EMPTY), EMPTY)

    def test_mixed_columns_are_led_to_those_of_both_led(self):
        rng = random.Random(10)
        seen = 0
        small = [value for value in support.SAMPLES if value[0] <= 3]
        for k in range(150):
            prime = support.PRIMES[k % 6]
            one, other = (support.random_patch(rng, prime, rng.choice(small), rng.randint(1, 3), rng.randint(0, 1))
                          for _ in range(2))
            sizes = tuple(a * b for a in one[2] for b in other[2])
            found = told(outer_patch, one, other)
            if found is None:
                self.assertTrue(sum(sizes) > 40 or max(sizes) > 8)
                continue
            self.assertTrue(support.is_plain(found))
            self.assertIsNone(patch_breach(found))
            self.assertEqual(found[:3], (prime, product_order(one[1], other[1]), sizes))
            m = other[1][0]
            for place, (low, high) in enumerate(found[1][1]):
                seen += 1
                first = support.random_column(rng, prime, one[2][low // m])
                second = support.random_column(rng, prime, other[2][low % m])
                self.assertEqual(
                    support.times(prime, found[3][place], mixed(prime, first, second)),
                    mixed(prime, support.times(prime, support.lead_table(one, low // m, high // m), first),
                          support.times(prime, support.lead_table(other, low % m, high % m), second)))
        self.assertGreater(seen, 300)

    def test_bounds_in_sequence(self):
        wide = level_patch(2, support.antichain(9), 3)
        self.assertEqual(support.refused(outer_patch, wide, wide), ("TooMany", 16))
        self.assertEqual(support.refused(outer_patch, flat(2, *(8,) * 5), flat(2, 8, 8, 8, 8)), ("TooMany", 16))
        self.assertEqual(outer_patch(level_patch(2, support.antichain(4), 1), level_patch(2, support.chain(4), 2))[2],
                         (2,) * 16)
        self.assertEqual(support.refused(outer_patch, flat(2, 8, 8), flat(2, 8, 8)), ("TooMany", 40))
        self.assertEqual(support.refused(outer_patch, flat(2, 7), flat(2, 6)), ("TooMany", 40))
        self.assertEqual(support.refused(outer_patch, flat(2, 8), flat(2, 5)), ("TooMany", 8))
        self.assertEqual(support.refused(outer_patch, flat(2, 3, 1), flat(2, 3, 1)), ("TooMany", 8))
        self.assertEqual(outer_patch(flat(2, 8, 8), flat(2, 1, 1))[2], (8,) * 4)
        self.assertEqual(outer_patch(flat(2, 8, 8, 8, 8, 8), flat(2, 1))[2], (8,) * 5)
        self.assertEqual(support.refused(outer_patch, flat(2, 8, 8, 8, 8, 8), flat(2, 2)), ("TooMany", 40))


class BesideTest(unittest.TestCase):

    def test_given(self):
        one = (5, support.chain(2), (1, 2), (((2,), (3,)),))
        other = (5, support.order(2, (1, 0)), (1, 1), (((4,),),))
        self.assertEqual(beside_patch(one, other),
                         (5, (4, ((0, 1), (3, 2))), (1, 2, 1, 1), (((2,), (3,)), ((4,),))))
        self.assertEqual(beside_patch(EMPTY, flat(3, 8, 8)), flat(3, 8, 8))
        self.assertEqual(beside_patch(flat(3, 8, 8), EMPTY), flat(3, 8, 8))
        self.assertEqual(beside_patch(EMPTY, EMPTY), EMPTY)

    def test_by_words(self):
        rng = random.Random(11)
        for k in range(60):
            prime = support.PRIMES[k % 6]
            one, other = (support.random_patch(rng, prime, rng.choice(support.SAMPLES), 3, 1) for _ in range(2))
            found = beside_patch(one, other)
            self.assertTrue(support.is_plain(found))
            self.assertIsNone(patch_breach(found))
            self.assertEqual(found, (prime, beside_order(one[1], other[1]), one[2] + other[2], one[3] + other[3]))

    def test_bounds_in_sequence(self):
        wide, tall = level_patch(2, support.antichain(9), 3), level_patch(2, support.antichain(8), 3)
        self.assertEqual(support.refused(beside_patch, wide, tall), ("TooMany", 16))
        self.assertEqual(support.refused(beside_patch, tall, tall), ("TooMany", 40))
        self.assertEqual(beside_patch(flat(2, 8, 8), flat(2, 8, 8, 8))[2], (8,) * 5)
        self.assertEqual(support.refused(beside_patch, flat(2, 8, 8, 1), flat(2, 8, 8, 8)), ("TooMany", 40))
        self.assertEqual(beside_patch(level_patch(2, (16, ()), 2), flat(2))[2], (2,) * 16)


if __name__ == "__main__":
    unittest.main()
