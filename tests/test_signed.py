"""[44], [45]: signed sizes."""

import random
import unittest

from patchrooms.counts import near_sizes, springing_counts, standing_counts
from patchrooms.duals import dual_patch
from patchrooms.holes import hole_sizes
from patchrooms.leadings import product_order
from patchrooms.moved import back_patch, forward_hole_sizes, forward_patch, is_tight
from patchrooms.orders import part_order, upside_down
from patchrooms.signed import (back_count, forward_count, low_count, part_size, row_weights, up_count, whole_size)
from patchrooms.sums import outer_patch
from patchrooms.ways import signs_between
from tests import slow, support

ORDERS = slow.ORDERS + slow.HOLED + (slow.halved_cube(), slow.layers(3, 3, 3, 3), support.chain(16))


def weights_by_words(order):
    found = [0] * order[0]
    for k in range(slow.height(order) + 1):
        for row in slow.rows(order, k):
            found[row[-1]] += (-1) ** k
    return tuple(found)


def some_count(rng, order):
    return tuple(rng.randint(-9, 9) for _ in range(order[0]))


def counts(seed, orders=ORDERS[:-1]):
    rng = random.Random(seed)
    found = []
    for order in orders:
        found += [(order, some_count(rng, order)) for _ in range(3)]
        found += [(order, (0,) * order[0]), (order, (1,) * order[0])]
        found.append((order, tuple(rng.randint(-10 ** 20, 10 ** 20) for _ in range(order[0]))))
    return found


def spot_sets(rng, order):
    """Some up sets, down sets and other spot sets, () among them."""
    ups = [slow.random_ups(rng, order) for _ in range(3)]
    low = upside_down(order)
    downs = [slow.random_ups(rng, low) for _ in range(3)]
    some = [tuple(x for x in range(order[0]) if rng.random() < 0.5) for _ in range(3)]
    return ups + downs + some + [(), tuple(range(order[0]))]


def part_by_words(order, count, spots):
    total = 0
    for k in range(slow.height(order) + 1):
        total += sum((-1) ** k * count[row[-1]] for row in slow.rows(order, k) if all(x in spots for x in row))
    return total


class WeightsTest(unittest.TestCase):

    def test_given(self):
        self.assertEqual(row_weights(slow.EMPTY), ())
        self.assertEqual(row_weights((1, ())), (1,))
        self.assertEqual(row_weights(support.chain(4)), (1, 0, 0, 0))
        self.assertEqual(row_weights(support.CROWN), (1, 1, -1, -1))
        self.assertEqual(row_weights(support.ROOF), (1, 1, -1))
        self.assertEqual(row_weights(support.VEE), (1, 0, 0))
        self.assertEqual(row_weights(slow.layers(3, 4)), (1, 1, 1, -2, -2, -2, -2))
        self.assertEqual(row_weights(support.order(3, (2, 0), (1, 0))), (-1, 1, 1))

    def test_by_words(self):
        for order in ORDERS[:-1]:
            found = row_weights(order)
            self.assertTrue(support.is_plain(found))
            self.assertEqual(found, weights_by_words(order))

    def test_sums_of_the_columns_of_signs(self):
        for order in ORDERS:
            self.assertEqual(row_weights(order), tuple(sum(column) for column in zip(*signs_between(order))))


class WholeTest(unittest.TestCase):

    def test_given(self):
        self.assertEqual(whole_size(slow.EMPTY, ()), 0)
        self.assertEqual(whole_size(support.CROWN, (1, 1, 1, 1)), 0)
        self.assertEqual(whole_size(support.CROWN, (5, 7, 1, -2)), 13)
        self.assertEqual(whole_size(support.chain(3), (-4, 9, 9)), -4)
        self.assertEqual(whole_size(slow.halved_cube(), (1,) * 13), 1)

    def test_by_words(self):
        for order, count in counts(1):
            self.assertEqual(whole_size(order, count), slow.whole_size(order, count))

    def test_holes_with_signs(self):
        for patch in slow.patches(2, 80) + slow.made_patches(2, 60):
            self.assertEqual(whole_size(patch[1], patch[2]), slow.signed(hole_sizes(patch)))

    def test_products(self):
        for one, count in counts(3, slow.ORDERS):
            for other, more in counts(4, (support.VEE, support.ROOF, support.chain(2), support.antichain(2))):
                if one[0] * other[0] <= 16:
                    mixed = tuple(a * b for a in count for b in more)
                    self.assertEqual(whole_size(product_order(one, other), mixed),
                                     whole_size(one, count) * whole_size(other, more))

    def test_outer_patches(self):
        for one, other in zip(slow.made_patches(5, 40, 1), slow.made_patches(6, 40, 1, (support.VEE, support.ROOF))):
            if one[0] == other[0] and not support.refused(outer_patch, one, other):
                outer = outer_patch(one, other)
                expected = whole_size(one[1], one[2]) * whole_size(other[1], other[2])
                self.assertEqual(whole_size(outer[1], outer[2]), expected)
                if slow.most_loads(outer) <= 160:
                    self.assertEqual(slow.signed(hole_sizes(outer)), expected)


class PartTest(unittest.TestCase):

    def test_given(self):
        self.assertEqual(part_size(support.CROWN, (5, 7, 1, -2), (0, 2)), 5)
        self.assertEqual(part_size(support.CROWN, (5, 7, 1, -2), (0, 1, 2)), 11)
        self.assertEqual(part_size(support.CROWN, (5, 7, 1, -2), (2, 3)), -1)
        self.assertEqual(part_size(support.CROWN, (5, 7, 1, -2), ()), 0)
        self.assertEqual(part_size(support.chain(3), (5, 7, 1), (0, 2)), 5)
        self.assertEqual(part_size(support.chain(3), (5, 7, 1), (1, 2)), 7)

    def test_by_words(self):
        rng = random.Random(7)
        for order, count in counts(7):
            for spots in spot_sets(rng, order):
                found = part_size(order, count, spots)
                self.assertEqual(found, part_by_words(order, count, spots))
                self.assertEqual(found, whole_size(part_order(order, spots), tuple(count[x] for x in spots)))
            self.assertEqual(part_size(order, count, tuple(range(order[0]))), whole_size(order, count))
            for x in range(order[0]):
                self.assertEqual(part_size(order, count, slow.upper(order, x)), count[x])

    def test_two_up_sets(self):
        rng = random.Random(8)
        for order, count in counts(8):
            one, other = slow.random_ups(rng, order), slow.random_ups(rng, order)
            both = tuple(x for x in range(order[0]) if x in one or x in other)
            shared = tuple(x for x in one if x in other)
            self.assertEqual(part_size(order, count, both) + part_size(order, count, shared),
                             part_size(order, count, one) + part_size(order, count, other))


class MovedTest(unittest.TestCase):

    def test_given(self):
        chain, led = support.chain(2), (0, 0, 1, 1)
        self.assertEqual(forward_count(support.CROWN, (5, 7, 1, -2), chain, led), (13, -1))
        self.assertEqual(forward_count(support.CROWN, (5, 7, 1, -2), chain, (1, 1, 1, 1)), (13, 13))
        self.assertEqual(forward_count(support.CROWN, (5, 7, 1, -2), chain, (0, 0, 0, 0)), (13, 0))
        self.assertEqual(forward_count(slow.EMPTY, (), chain, ()), (0, 0))
        self.assertEqual(forward_count(slow.EMPTY, (), slow.EMPTY, ()), ())
        self.assertEqual(back_count((5, -7), led), (5, 5, -7, -7))
        self.assertEqual(back_count((5, -7), ()), ())

    def test_by_words(self):
        rng = random.Random(9)
        for order, count in counts(9):
            other, led = slow.leading_on(rng, order)
            found = forward_count(order, count, other, led)
            self.assertTrue(support.is_plain(found))
            self.assertEqual(found, tuple(part_by_words(order, count, slow.above(other, led, y))
                                          for y in range(other[0])))
            self.assertEqual(whole_size(other, found), whole_size(order, count))
            more = some_count(rng, other)
            self.assertEqual(back_count(more, led), tuple(more[y] for y in led))

    def test_two_leadings(self):
        rng = random.Random(10)
        for order, count in counts(10):
            other, led = slow.leading_on(rng, order)
            third, further = slow.leading_on(rng, other)
            both = tuple(further[y] for y in led)
            self.assertEqual(forward_count(other, forward_count(order, count, other, led), third, further),
                             forward_count(order, count, third, both))
            more = some_count(rng, third)
            self.assertEqual(back_count(back_count(more, further), led), back_count(more, both))

    def test_sizes_of_patches(self):
        seen = 0
        for patch, other, led in slow.moving(11, 60):
            count = forward_count(patch[1], patch[2], other, led)
            sizes = forward_hole_sizes(patch, other, led)
            self.assertEqual(count, tuple(slow.signed(line) for line in sizes))
            if not any(any(line[1:]) for line in sizes) and not support.refused(forward_patch, patch, other, led):
                self.assertEqual(forward_patch(patch, other, led)[2], count)
                seen += any(count)
        self.assertGreater(seen, 30)

    def test_back_along_tight_ones(self):
        rng, seen = random.Random(12), 0
        for n in range(150):
            order = rng.choice(slow.SMALL + slow.HOLED)
            other, led = slow.leading_on(rng, order)
            if not is_tight(support.PRIMES[n % 6], order, other, led):
                continue
            for _ in range(3):
                count = some_count(rng, other)
                self.assertEqual(whole_size(order, back_count(count, led)), whole_size(other, count))
                seen += len(set(led)) > 1
            patch = slow.made_patch(rng, 5, other, 2)
            if not support.refused(back_patch, patch, order, led):
                back = back_patch(patch, order, led)
                self.assertEqual(back[2], back_count(patch[2], led))
        self.assertGreater(seen, 20)


class LowAndUpTest(unittest.TestCase):

    def test_given(self):
        chain = support.chain(3)
        self.assertEqual(low_count(chain, (5, 7, 1)), (5, 2, -6))
        self.assertEqual(up_count(chain, (5, 7, 1)), (5, 12, 13))
        self.assertEqual(low_count(support.CROWN, (5, 7, 1, -2)), (5, 7, -11, -14))
        self.assertEqual(up_count(support.CROWN, (5, 7, 1, -2)), (5, 7, 13, 10))
        self.assertEqual(low_count(support.DIAMOND, (1, 1, 1, 1)), (1, 0, 0, 0))
        self.assertEqual(up_count(support.DIAMOND, (1, 1, 1, 1)), (1, 2, 2, 4))
        self.assertEqual(low_count(slow.EMPTY, ()), ())
        self.assertEqual(up_count(slow.EMPTY, ()), ())

    def test_by_words(self):
        for order, count in counts(13):
            signs = signs_between(order)
            low, up = low_count(order, count), up_count(order, count)
            self.assertTrue(support.is_plain((low, up)))
            for y in range(order[0]):
                below = [x for x in range(order[0]) if slow.is_below(order, x, y)]
                self.assertEqual(low[y], sum(count[x] * signs[x][y] for x in below))
                self.assertEqual(up[y], sum(count[x] for x in below))

    def test_they_undo_each_other(self):
        for order, count in counts(14, ORDERS):
            self.assertEqual(up_count(order, low_count(order, count)), count)
            self.assertEqual(low_count(order, up_count(order, count)), count)

    def test_whole_size_of_low_counts(self):
        for order, count in counts(15, ORDERS):
            self.assertEqual(whole_size(order, count), sum(low_count(upside_down(order), count)))

    def test_least_rows(self):
        seen = 0
        for patch in slow.patches(16, 60, springs=4) + slow.made_patches(16, 60):
            order, sizes = patch[1], patch[2]
            low = low_count(order, sizes)
            high = low_count(upside_down(order), sizes)
            if not support.refused(springing_counts, patch):
                lines = springing_counts(patch)
                self.assertEqual(low, tuple(slow.signed([line[x] for line in lines]) for x in range(order[0])))
                seen += any(size < 0 for size in low)
            if not support.refused(standing_counts, patch):
                lines = standing_counts(patch)
                self.assertEqual(high, tuple(slow.signed([line[x] for line in lines]) for x in range(order[0])))
                seen += any(size < 0 for size in high)
            for x in range(order[0]):
                self.assertEqual(high[x], slow.signed(near_sizes(patch, x)))
        self.assertGreater(seen, 60)

    def test_duals(self):
        for patch in slow.patches(17, 40):
            self.assertEqual(low_count(patch[1], patch[2]),
                             low_count(upside_down(dual_patch(patch)[1]), dual_patch(patch)[2]))


if __name__ == "__main__":
    unittest.main()
