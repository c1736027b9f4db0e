"""[42], [43]: facing patches, round orders that face one way."""

import random
import unittest

from patchrooms.duals import is_round
from patchrooms.facing import faces_one_way, facing_patch
from patchrooms.holes import hole_size, hole_sizes, hole_table, pieces_size
from patchrooms.leadings import beside_order
from patchrooms.maps import need_map
from patchrooms.patches import level_patch, lone_patch, need_patch, springing, standing
from patchrooms.signed import row_weights
from patchrooms.splits import is_same
from patchrooms.ways import ways_size, ways_sizes
from tests import slow, support
from tests.test_duals import LAYERS_JUST, LAYERS_MORE, ROUND, TORUS, TWO_CROWNS, twisted

POINT = (1, ())
ORDERS = slow.ORDERS + slow.HOLED + (slow.halved_cube(), TWO_CROWNS)


def beside(*orders):
    found = orders[0]
    for order in orders[1:]:
        found = beside_order(found, order)
    return found


def exchanged(table, size):
    return tuple(tuple(line[k] for line in table) for k in range(size))


def sizes_by_words(prime, order, k):
    found = []
    for x in range(order[0]):
        sizes = slow.hole_sizes(slow.ones(prime, order, slow.upper(order, x)))
        found.append(sizes[k] if k < len(sizes) else 0)
    return tuple(found)


def few_ways(one, other):
    return not support.refused(ways_sizes, one, other)


class FacingTest(unittest.TestCase):

    def test_given(self):
        for prime in support.PRIMES:
            still = facing_patch(prime, support.CROWN, 1)
            self.assertEqual(still[2], (1, 1, 1, 1))
            self.assertEqual(facing_patch(prime, support.CROWN, 0), level_patch(prime, support.CROWN, 0))
            self.assertEqual(facing_patch(prime, support.CROWN, 2), level_patch(prime, support.CROWN, 0))
            self.assertEqual(facing_patch(prime, support.CROWN, 16), level_patch(prime, support.CROWN, 0))
            # Over a chain the springing patch of the lowest spot alone has a telling, the others have no holes.
            chain = support.chain(3)
            self.assertEqual(facing_patch(prime, chain, 0), lone_patch(prime, chain, 0))
            self.assertEqual(facing_patch(prime, chain, 1), level_patch(prime, chain, 0))
            # A lone high spot of a vee has tellings of none of its own; the low one has them of both.
            self.assertEqual(facing_patch(prime, support.VEE, 0), lone_patch(prime, support.VEE, 0))
            self.assertEqual(facing_patch(prime, support.ROOF, 1), lone_patch(prime, support.ROOF, 2))
            self.assertEqual(facing_patch(prime, support.antichain(3), 0), level_patch(prime, support.antichain(3), 1))
            self.assertEqual(facing_patch(prime, slow.EMPTY, 0), (prime, slow.EMPTY, (), ()))

    def test_by_words(self):
        led_on = 0
        for n, order in enumerate(ORDERS):
            prime = support.PRIMES[n % 6]
            for k in range(slow.height(order) + 2):
                if sum(sizes_by_words(prime, order, k)) > 40:
                    continue
                found = facing_patch(prime, order, k)
                self.assertTrue(support.is_plain(found))
                self.assertEqual(need_patch(found), found)
                self.assertEqual(found[:3], (prime, order, sizes_by_words(prime, order, k)))
                for (x, y), table in zip(order[1], found[3]):
                    one, other = springing(prime, order, y), springing(prime, order, x)
                    led = tuple(((1,),) if one[2][z] else ((),) * other[2][z] for z in range(order[0]))
                    self.assertEqual(need_map(one, other, led), led)
                    self.assertEqual(table, exchanged(hole_table(one, other, led, k), hole_size(one, k)))
                    led_on += any(map(any, table))
        self.assertGreater(led_on, 60)

    def test_signs_of_the_sizes(self):
        for n, order in enumerate(ORDERS):
            prime = support.PRIMES[n % 6]
            weights = row_weights(order)
            total = [0] * order[0]
            for k in range(slow.height(order) + 1):
                for x, size in enumerate(facing_patch(prime, order, k)[2]):
                    total[x] += (-1) ** k * size
            for x in range(order[0]):
                self.assertEqual(total[x], sum(weights[y] for y in slow.upper(order, x)))

    def test_sums_with_signs_of_holes(self):
        seen = 0
        for patch in slow.patches(1, 60) + slow.made_patches(1, 60):
            faces = [facing_patch(patch[0], patch[1], j) for j in range(slow.height(patch[1]) + 1)]
            if all(few_ways(patch, face) for face in faces):
                total = sum((-1) ** j * slow.signed(ways_sizes(patch, face)) for j, face in enumerate(faces))
                self.assertEqual(total, slow.signed(hole_sizes(patch)))
                seen += total != 0
        self.assertGreater(seen, 60)

    def test_round_orders(self):
        rng, seen = random.Random(2), 0
        for n, (order, d) in enumerate(ROUND):
            for prime in support.PRIMES if order[0] < 10 else (support.PRIMES[n % 6], 2, 3):
                faces = [facing_patch(prime, order, k) for k in range(d + 2)]
                self.assertEqual(faces[d][2], (1,) * order[0])
                self.assertTrue(all(table[0][0] for table in faces[d][3]))
                for k in range(d + 2):
                    if k != d:
                        self.assertEqual(faces[k], level_patch(prime, order, 0))
                patches = [slow.made_patch(rng, prime, order, 2) for _ in range(2)]
                patches += [support.random_patch(rng, prime, order, 3, 2), level_patch(prime, order, 1)]
                for patch in patches:
                    if slow.most_loads(patch) <= 160 and few_ways(patch, faces[d]):
                        self.assertEqual(hole_sizes(patch), ways_sizes(patch, faces[d])[::-1])
                        self.assertEqual(hole_size(patch, 0), ways_size(patch, faces[d], d))
                        seen += any(hole_sizes(patch)[1:])
        self.assertGreater(seen, 40)

    def test_over_2_as_the_level_patch(self):
        for order, d in ROUND:
            # All sizes are 1, and over 2 a table that can be turned back has the entry 1.
            self.assertEqual(facing_patch(2, order, d), level_patch(2, order, 1))
        self.assertEqual(facing_patch(2, slow.EMPTY, 5), level_patch(2, slow.EMPTY, 1))


class BoundsTest(unittest.TestCase):

    def test_too_many_loads(self):
        self.assertEqual(slow.most_loads(level_patch(3, LAYERS_JUST, 1)), 160)
        self.assertIsNone(support.refused(facing_patch, 3, LAYERS_JUST, 0))
        for k in (0, 1, 3, 16):
            self.assertEqual(support.refused(facing_patch, 3, LAYERS_MORE, k), ("TooMany", 160))
            self.assertEqual(support.refused(facing_patch, 3, support.chain(16), k), ("TooMany", 160))

    def test_sizes_just_40_in_all_and_more(self):
        just = beside(slow.layers(4, 2), slow.layers(2, 4), slow.layers(2, 2))
        found = facing_patch(5, just, 1)
        self.assertEqual(found[2], (5, 5, 5, 5, 3, 3) + (3, 3, 1, 1, 1, 1) + (1, 1, 1, 1))
        self.assertEqual(sum(found[2]), 40)
        more = beside(slow.layers(6, 1), slow.layers(4, 1), slow.layers(2, 1))
        self.assertEqual(sum(sizes_by_words(5, more, 1)), 41)
        self.assertEqual(max(sizes_by_words(5, more, 1)), 5)
        self.assertEqual(support.refused(facing_patch, 5, more, 1), ("TooMany", 40))
        self.assertIsNone(support.refused(facing_patch, 5, more, 0))

    def test_sizes_just_8_at_a_spot_and_more(self):
        self.assertEqual(facing_patch(7, slow.layers(2, 9), 1)[2], (8, 8) + (1,) * 9)
        self.assertEqual(sizes_by_words(7, slow.layers(2, 10), 1), (9, 9) + (1,) * 10)
        self.assertEqual(support.refused(facing_patch, 7, slow.layers(2, 10), 1), ("TooMany", 8))
        # 8 at a spot, but 41 in all; and both too great.
        self.assertEqual(sizes_by_words(7, slow.layers(4, 3), 1), (8,) * 4 + (3,) * 3)
        self.assertEqual(support.refused(facing_patch, 7, slow.layers(4, 3), 1), ("TooMany", 40))
        self.assertEqual(sizes_by_words(7, slow.layers(4, 4), 1), (11,) * 4 + (3,) * 4)
        self.assertEqual(support.refused(facing_patch, 7, slow.layers(4, 4), 1), ("TooMany", 40))


class OneWayTest(unittest.TestCase):

    def test_given(self):
        for prime in support.PRIMES:
            for order, d in ROUND:
                turned = order in (slow.halved_cube(), twisted()) and prime > 2
                self.assertIs(faces_one_way(prime, order, d), not turned)
            for d in range(7):
                self.assertIs(faces_one_way(prime, slow.EMPTY, d), True)

    def test_same_as_the_level_patch(self):
        for n, (order, d) in enumerate(ROUND):
            for prime in (2, 3, support.PRIMES[n % 6]):
                pair = facing_patch(prime, order, d), level_patch(prime, order, 1)
                if not support.refused(is_same, *pair):
                    self.assertEqual(faces_one_way(prime, order, d), is_same(*pair))

    def test_by_holes(self):
        for order, d in ROUND:
            for prime in (2, 5):
                level = level_patch(prime, order, 1)
                self.assertEqual(faces_one_way(prime, order, d), hole_size(level, d) == pieces_size(order))

    def test_more_maps_than_may_be_looked_at(self):
        # Of 16 spots beside one another each has its own factor; nothing is refused for that.
        self.assertIs(faces_one_way(13, support.antichain(16), 0), True)

    def test_not_round(self):
        for prime in support.PRIMES:
            for order, d in ((support.CROWN, 0), (support.CROWN, 2), (support.chain(2), 0), (support.VEE, 1),
                             (slow.layers(3, 3), 1), (TORUS, 1), (TORUS, 3), (POINT, 6)):
                self.assertFalse(is_round(prime, order, d))
                self.assertEqual(support.refused(faces_one_way, prime, order, d), ("NotRound",))

    def test_what_is_round_raises_stands_ahead(self):
        for d in (0, 1, 6):
            self.assertEqual(support.refused(faces_one_way, 3, LAYERS_MORE, d), ("TooMany", 160))
            self.assertEqual(support.refused(faces_one_way, 3, support.chain(12), d), ("TooMany", 160))
            self.assertEqual(support.refused(faces_one_way, 3, LAYERS_JUST, d), ("NotRound",))


class OtherOrdersTest(unittest.TestCase):

    def test_ways_to_lone_and_standing_patches(self):
        # Of an order that is not round the sum with signs is still told.
        for prime in support.PRIMES:
            for order in (support.ROOF, support.ENN, slow.layers(3, 2)):
                faces = [facing_patch(prime, order, j) for j in range(slow.height(order) + 1)]
                for x in range(order[0]):
                    for patch in (standing(prime, order, x), springing(prime, order, x)):
                        total = sum((-1) ** j * slow.signed(ways_sizes(patch, face)) for j, face in enumerate(faces))
                        self.assertEqual(total, slow.signed(hole_sizes(patch)))


if __name__ == "__main__":
    unittest.main()
