"""[37]: holes moved along a leading."""

import random
import unittest

from patchrooms.higher import forward_holes, moved_holes_bound
from patchrooms.holes import hole_parts, hole_size, hole_sizes
from patchrooms.moved import forward_patch
from patchrooms.patches import cut_patch, level_patch, lone_patch, patch_breach
from tests import slow, support
from tests.test_moved import NONE, POINT, flat, level, told


def led_on(patch, seed):
    """(the patch, other, a leading to it), for small orders."""
    rng = random.Random(seed)
    found = []
    for other in (support.chain(2), support.VEE, support.chain(3), support.ROOF, POINT):
        for _ in range(3):
            found.append((patch, other, slow.random_leading(rng, patch[1], other)))
    return found


def holed(seed, count):
    """(patch, other, led), many with holes of the degree 1 over several spots."""
    found = []
    for k, patch in enumerate(slow.made_patches(seed, count, 2, slow.HOLED + (slow.layers(2, 2, 2, 2),))):
        found += led_on(patch, seed + k)
    return found


def put_in(seed, count):
    """(patch, other, led), the patch over an up set of the other order."""
    rng = random.Random(seed)
    found = []
    for patch in slow.made_patches(seed, count, 2, (support.DOUBLE_CROWN, slow.layers(2, 2, 3), slow.BROAD)):
        spots = slow.random_ups(rng, patch[1])
        found.append((cut_patch(patch, spots), patch[1], spots))
    return found


# One spot below two below three.
TOWER = slow.layers(1, 2, 3)


class HolesTest(unittest.TestCase):

    def test_given(self):
        crown = level(5, support.CROWN)
        chain = support.chain(2)
        self.assertEqual(forward_holes(crown, chain, (0, 0, 1, 1), 0), (5, chain, (1, 2), (((1,), (1,)),)))
        self.assertEqual(forward_holes(crown, chain, (0, 0, 1, 1), 1), (5, chain, (1, 0), ((),)))
        self.assertEqual(forward_holes(crown, chain, (1, 1, 1, 1), 1), (5, chain, (1, 1), (((1,),),)))
        self.assertEqual(forward_holes(crown, POINT, (0,) * 4, 1), (5, POINT, (1,), ()))
        for k in (2, 3, 16, 17):
            self.assertEqual(forward_holes(crown, chain, (0, 0, 1, 1), k), level_patch(5, chain, 0))
        for k in (0, 1, 16):
            self.assertEqual(forward_holes(NONE, support.VEE, (), k), level_patch(7, support.VEE, 0))
            self.assertEqual(forward_holes(NONE, slow.EMPTY, (), k), NONE)
        # A spot to which nothing is led, or above it.
        self.assertEqual(forward_holes(crown, support.chain(3), (0, 0, 1, 1), 1)[2], (1, 0, 0))
        # A hole over the middle one of three, that comes from none below it.
        self.assertEqual(forward_holes(level(3, TOWER), support.chain(3), (0, 1, 1, 2, 2, 2), 1)[2:],
                         ((0, 2, 0), (((), ()), (), ())))
        self.assertEqual(forward_holes(level(3, TOWER), support.chain(3), (1, 1, 1, 2, 2, 2), 1)[2], (0, 0, 0))

    def test_by_words(self):
        rng = random.Random(1)
        seen = 0
        for patch, other, led in slow.moving(1, 60) + holed(1, 30) + put_in(1, 30):
            prime = patch[0]
            upper = [slow.above(other, led, y) for y in range(other[0])]
            cuts = [cut_patch(patch, spots) for spots in upper]
            for k in range(slow.height(patch[1]) + 2):
                found = told(forward_holes, patch, other, led, k)
                sizes = tuple(hole_size(cut, k) for cut in cuts)
                if found is None:
                    self.assertFalse(support.sizes_fit(sizes))
                    continue
                self.assertTrue(support.is_plain(found))
                self.assertIsNone(patch_breach(found))
                self.assertEqual(found[:3], (prime, other, sizes))
                for place, (y, z) in enumerate(other[1]):
                    every = slow.units(slow.load_size(cuts[y], k))
                    closed = [slow.combined(prime, factors, every, len(every)) for factors in slow.closed(cuts[y], k)]
                    load = slow.some_of(rng, prime, closed, len(every))
                    cut = slow.cut_load(patch, upper[y], upper[z], k, load)
                    parts = hole_parts(cuts[z], k, cut)
                    self.assertEqual(support.times(prime, found[3][place], hole_parts(cuts[y], k, load)), parts)
                    seen += k > 0 and any(parts)
        self.assertGreater(seen, 15)

    def test_degree_0(self):
        for patch, other, led in slow.moving(2, 80):
            found = told(forward_holes, patch, other, led, 0)
            self.assertEqual(found, told(forward_patch, patch, other, led))

    def test_bounds_in_sequence(self):
        for patch in (slow.MORE, slow.MORE_2, level(3, support.chain(10))):
            n = patch[1][0]
            for k in (0, 1, 2, 16):
                self.assertEqual(support.refused(forward_holes, patch, POINT, (0,) * n, k), ("TooMany", 160))
                # Also where all cuts have few loads, and where sizes are too great, too.
                self.assertEqual(support.refused(forward_holes, patch, patch[1], tuple(range(n)), k), ("TooMany", 160))
                self.assertEqual(support.refused(forward_holes, patch, support.chain(16), (15,) * n, k),
                                 ("TooMany", 160))
        nine = flat(3, 8, 1)
        self.assertEqual(support.refused(forward_holes, nine, POINT, (0, 0), 0), ("TooMany", 8))
        self.assertEqual(support.refused(forward_holes, nine, support.chain(5), (4, 4), 0), ("TooMany", 40))
        self.assertEqual(support.refused(forward_holes, nine, support.chain(4), (3, 3), 0), ("TooMany", 8))
        self.assertEqual(forward_holes(nine, POINT, (0, 0), 1), level_patch(3, POINT, 0))
        self.assertEqual(forward_holes(flat(3, 8), support.chain(5), (4,), 0)[2], (8,) * 5)
        self.assertEqual(support.refused(forward_holes, flat(3, 8), support.chain(6), (5,), 0), ("TooMany", 40))
        # 128 holes of the degree 1 over one spot.
        self.assertEqual(support.refused(forward_holes, slow.JUST, POINT, (0,) * 9, 1), ("TooMany", 40))
        self.assertEqual(forward_holes(slow.JUST, POINT, (0,) * 9, 0), level_patch(3, POINT, 0))
        # Eight holes of the degree 1 over one spot, and nine.
        self.assertEqual(forward_holes(slow.flat(3, slow.layers(2, 1), (0, 0, 8)), POINT, (0,) * 3, 1)[2], (8,))
        order = slow.layers(4, 1)
        patch = slow.flat(3, order, (0,) * 4 + (3,))
        self.assertEqual(support.refused(forward_holes, patch, POINT, (0,) * 5, 1), ("TooMany", 8))
        self.assertEqual(support.refused(forward_holes, patch, support.chain(5), (4,) * 5, 1), ("TooMany", 40))
        self.assertEqual(forward_holes(slow.flat(3, order, (0,) * 4 + (2,)), POINT, (0,) * 5, 1)[2], (6,))


def bound_by_words(patch, other, led):
    top = slow.height(patch[1])
    moved = [forward_holes(patch, other, led, k) for k in range(top + 1)]
    return tuple(sum(hole_size(moved[k - i], i) for i in range(k + 1)) for k in range(top + 1))


class BoundTest(unittest.TestCase):

    def test_given(self):
        crown = level(5, support.CROWN)
        self.assertEqual(moved_holes_bound(crown, support.chain(2), (0, 0, 1, 1)), (1, 1))
        self.assertEqual(moved_holes_bound(crown, support.CROWN, (0, 1, 2, 3)), (1, 1))
        self.assertEqual(moved_holes_bound(crown, POINT, (0,) * 4), (1, 1))
        self.assertEqual(moved_holes_bound(NONE, support.VEE, ()), ())
        self.assertEqual(moved_holes_bound(NONE, slow.EMPTY, ()), ())
        self.assertEqual(moved_holes_bound(level(3, support.DOUBLE_CROWN), support.chain(2), (0, 0, 1, 1, 1, 1)),
                         (1, 0, 1))
        # A skin of the degree 2 but one low: holes of the degree 1 and 2 that undo each other.
        ball = cut_patch(level(3, support.DOUBLE_CROWN), (1, 2, 3, 4, 5))
        self.assertEqual(hole_sizes(ball), (1, 0, 0))
        self.assertEqual(moved_holes_bound(ball, support.DOUBLE_CROWN, (1, 2, 3, 4, 5)), (1, 1, 1))
        # Each degree sums up its own holes alone: those of the degree 1 have further ones over lower spots.
        skin = slow.layers(2, 2, 2, 2)
        upper = cut_patch(level(3, skin), (4, 5, 6, 7))
        self.assertEqual(hole_sizes(forward_holes(upper, skin, (4, 5, 6, 7), 1)), (1, 1, 0, 0))
        self.assertEqual(moved_holes_bound(upper, skin, (4, 5, 6, 7)), (1, 1))
        # The other order may be higher.
        self.assertEqual(moved_holes_bound(level(3, POINT), support.chain(4), (1,)), (1,))

    def test_by_words(self):
        rng = random.Random(3)
        greater, above = 0, 0
        for patch, other, led in slow.moving(3, 100) + holed(3, 25) + put_in(3, 80):
            found = told(moved_holes_bound, patch, other, led)
            if found is None:
                continue
            self.assertTrue(support.is_plain(found))
            self.assertEqual(found, bound_by_words(patch, other, led))
            sizes = hole_sizes(patch)
            above += any(sizes[1:])
            self.assertEqual(len(found), len(sizes))
            for size, bound in zip(sizes, found):
                self.assertLessEqual(size, bound)
                if slow.height(other) <= 1:
                    self.assertEqual(size, bound)
            greater += found != sizes
            moved = [forward_holes(patch, other, led, k) for k in range(len(sizes))]
            self.assertEqual(sum((-1) ** k * slow.signed(hole_sizes(part)) for k, part in enumerate(moved)),
                             slow.signed(sizes))
            if len(sizes) > 1:
                self.assertLessEqual(hole_size(moved[0], 1), sizes[1])
        self.assertGreater(above, 60)
        self.assertGreater(greater, 0)

    def test_errors_in_turn(self):
        for patch in (slow.MORE, slow.MORE_2, level(3, support.chain(10))):
            n = patch[1][0]
            self.assertEqual(support.refused(moved_holes_bound, patch, POINT, (0,) * n), ("TooMany", 160))
        # Nine over one spot in the degree 0; then nine in the degree 0 and more than 40 in the degree 1.
        both = slow.flat(3, slow.layers(2, 2), (5, 4, 8, 8))
        self.assertEqual(support.refused(forward_holes, both, POINT, (0,) * 4, 0), ("TooMany", 8))
        self.assertEqual(support.refused(forward_holes, both, POINT, (0,) * 4, 1), ("TooMany", 8))
        self.assertEqual(support.refused(moved_holes_bound, both, POINT, (0,) * 4), ("TooMany", 8))
        wide = slow.flat(3, slow.layers(6, 1), (2, 2, 2, 2, 1, 0, 8))
        self.assertEqual(support.refused(forward_holes, wide, support.chain(2), (1,) * 7, 0), ("TooMany", 8))
        self.assertEqual(support.refused(forward_holes, wide, support.chain(2), (1,) * 7, 1), ("TooMany", 40))
        self.assertEqual(support.refused(moved_holes_bound, wide, support.chain(2), (1,) * 7), ("TooMany", 8))
        self.assertEqual(support.refused(moved_holes_bound, slow.JUST, POINT, (0,) * 9), ("TooMany", 40))
        eight = slow.flat(3, slow.layers(4, 1), (0,) * 4 + (3,))
        self.assertEqual(support.refused(moved_holes_bound, eight, POINT, (0,) * 5), ("TooMany", 8))

    def test_moved_holes_with_too_many_loads(self):
        # Led to the top of a chain, a telling stands at each spot of it; so does a hole of the degree 1.
        chain, longer = support.chain(9), support.chain(10)
        self.assertEqual(moved_holes_bound(level(3, POINT), chain, (8,)), (1,))
        self.assertEqual(support.refused(moved_holes_bound, level(3, POINT), longer, (9,)), ("TooMany", 160))
        self.assertEqual(forward_holes(level(3, POINT), longer, (9,), 0), level(3, longer))
        lone = lone_patch(3, support.ROOF, 2)
        self.assertEqual(moved_holes_bound(lone, chain, (8,) * 3), (0, 1))
        self.assertEqual(forward_holes(lone, longer, (9,) * 3, 0), level_patch(3, longer, 0))
        self.assertEqual(support.refused(moved_holes_bound, lone, longer, (9,) * 3), ("TooMany", 160))

    def test_the_errors_of_all_degrees_stand_ahead_of_too_many_loads(self):
        # A telling of its own, and nine holes of the degree 1.
        longer = support.chain(10)
        patch = slow.flat(3, support.order(6, (0, 4), (1, 4), (2, 4), (3, 4)), (0,) * 4 + (3, 1))
        self.assertEqual(hole_sizes(patch), (1, 9))
        self.assertEqual(forward_holes(patch, longer, (9,) * 6, 0), level(3, longer))
        self.assertEqual(support.refused(forward_holes, patch, longer, (9,) * 6, 1), ("TooMany", 40))
        self.assertEqual(support.refused(moved_holes_bound, patch, longer, (9,) * 6), ("TooMany", 40))
        self.assertEqual(support.refused(moved_holes_bound, patch, longer, (0,) * 5 + (9,)), ("TooMany", 8))


if __name__ == "__main__":
    unittest.main()
