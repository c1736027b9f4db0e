"""[36]: maps turned over along a leading."""

import random
import unittest

from patchrooms.lots import rest_of
from patchrooms.maps import kernel_patch, map_space, need_map, still_map
from patchrooms.moved import back_patch, forward_patch, gathered_patch
from patchrooms.patches import level_patch
from patchrooms.tellings import tellings
from patchrooms.turning import apart_turn, back_turn, forward_turn, gathered_turn
from tests import slow, support
from tests.test_moved import NONE, POINT, flat, level, lot_by_words, some_map, spread, told


def turning(seed, count, move):
    """(g, f, along, g moved back, f moved on), none of them too great for maps to be looked at."""
    rng = random.Random(seed)
    found = []
    for f, other, along in slow.moving(seed, count):
        g = slow.made_patch(rng, f[0], other, 2)
        back, on = told(back_patch, g, f[1], along), told(move, f, other, along)
        if back is not None and on is not None:
            pairs = ((back, f), (g, on)) if move is forward_patch else ((f, back), (on, g))
            if not any(support.refused(map_space, *pair) for pair in pairs):
                found.append((g, f, along, back, on))
    return found


def lead_column(patch, x, y, column):
    return support.times(patch[0], support.lead_table(patch, x, y), column)


class ForwardTest(unittest.TestCase):

    def test_given(self):
        chain = support.chain(2)
        f = level(5, support.CROWN)
        g = (5, chain, (1, 1), (((2,),),))
        along = (0, 0, 1, 1)
        # Moved back g has 1 everywhere, led upward by 2.
        led = (((1,),), ((1,),), ((3,),), ((3,),))
        self.assertEqual(need_map(back_patch(g, support.CROWN, along), f, led), led)
        self.assertEqual(forward_turn(g, f, along, led), (((1,),), ((3,), (3,))))
        self.assertEqual(back_turn(g, f, along, (((1,),), ((3,), (3,)))), led)
        # A spot above which nothing is led has no tellings; one below all has those of all.
        g = (5, support.chain(3), (1, 1, 1), (((2,),), ((2,),), ((1,),)))
        self.assertEqual(forward_turn(g, level(5, POINT), (1,), (((4,),),)), (((3,),), ((4,),), ()))
        self.assertEqual(back_turn(g, level(5, POINT), (1,), (((3,),), ((4,),), ())), (((4,),),))
        self.assertEqual(forward_turn(NONE, NONE, (), ()), ())
        self.assertEqual(back_turn(NONE, NONE, (), ()), ())
        self.assertEqual(forward_turn(level(7, POINT), NONE, (), ()), ((),))
        self.assertEqual(back_turn(level(7, POINT), NONE, (), ((),)), ())
        nothing = level_patch(5, POINT, 0)
        self.assertEqual(forward_turn(nothing, level(5, POINT), (0,), (((),),)), (((),),))
        self.assertEqual(forward_turn(level(5, POINT), nothing, (0,), ((),)), ((),))

    def test_by_words(self):
        rng = random.Random(1)
        seen = 0
        for g, f, along, back, on in turning(1, 100, forward_patch):
            prime, other = g[0], g[1]
            led = some_map(rng, back, f)
            found = forward_turn(g, f, along, led)
            self.assertTrue(support.is_plain(found))
            self.assertEqual(need_map(g, on, found), found)
            for y in range(other[0]):
                spots = slow.above(other, along, y)
                basis = tellings(f, spots)
                for k, unit in enumerate(slow.units(g[2][y])):
                    column = ()
                    for x in spots:
                        column += support.times(prime, led[x], lead_column(g, y, along[x], unit))
                    parts = tuple(line[k] for line in found[y])
                    self.assertEqual(slow.combined(prime, parts, basis, len(column)), column)
                    seen += any(column)
        self.assertGreater(seen, 60)

    def test_back_by_words(self):
        rng = random.Random(2)
        seen = 0
        for g, f, along, back, on in turning(2, 100, forward_patch):
            prime, other = g[0], g[1]
            led = some_map(rng, g, on)
            found = back_turn(g, f, along, led)
            self.assertTrue(support.is_plain(found))
            self.assertEqual(need_map(back, f, found), found)
            for x, y in enumerate(along):
                spots = slow.above(other, along, y)
                basis = tellings(f, spots)
                for k in range(g[2][y]):
                    telling = slow.combined(prime, [line[k] for line in led[y]], basis, sum(f[2][z] for z in spots))
                    self.assertEqual(tuple(line[k] for line in found[x]), slow.cut_column(f, spots, (x,), telling))
                    seen += any(telling)
        self.assertGreater(seen, 60)

    def test_they_undo_each_other(self):
        rng = random.Random(3)
        for g, f, along, back, on in turning(3, 100, forward_patch):
            led, more = some_map(rng, back, f), some_map(rng, g, on)
            self.assertEqual(back_turn(g, f, along, forward_turn(g, f, along, led)), led)
            self.assertEqual(forward_turn(g, f, along, back_turn(g, f, along, more)), more)

    def test_kernel_0(self):
        rng = random.Random(4)
        seen = 0
        for g in slow.made_patches(4, 80, 2, slow.SMALL) + slow.patches(4, 80, orders=slow.SMALL):
            orders = [value for value in slow.SMALL if value[0] >= g[1][0] and (g[1][0] or not value[0])]
            for order in rng.sample(orders, min(4, len(orders))):
                along = slow.random_leading(rng, order, g[1])
                f = told(back_patch, g, order, along)
                if set(along) == set(range(g[1][0])) and f is not None and told(forward_patch, f, g[1], along):
                    seen += any(g[2])
                    led = forward_turn(g, f, along, still_map(f))
                    self.assertFalse(any(kernel_patch(g, forward_patch(f, g[1], along), led)[2]))
        self.assertGreater(seen, 20)


class GatheredTest(unittest.TestCase):

    def test_given(self):
        chain = support.chain(2)
        f = level(5, support.CROWN)
        g = (5, chain, (1, 1), (((2,),),))
        along = (0, 0, 1, 1)
        led = (((1,),), ((1,),), ((2,),), ((2,),))
        self.assertEqual(need_map(f, back_patch(g, support.CROWN, along), led), led)
        # Over the low spot both lows, over the high one all are one column, told at the last spot.
        self.assertEqual(gathered_turn(f, g, along, led), (((1, 1),), ((2,),)))
        self.assertEqual(apart_turn(f, g, along, (((1, 1),), ((2,),))), led)
        g = (5, support.chain(3), (1, 1, 1), (((2,),), ((2,),), ((1,),)))
        self.assertEqual(gathered_turn(level(5, POINT), g, (1,), (((4,),),)), (((),), ((4,),), ((4,),)))
        g = (5, support.chain(2), (1, 1), (((2,),),))
        self.assertEqual(gathered_turn(level(5, POINT), g, (0,), (((4,),),)), (((4,),), ((3,),)))
        self.assertEqual(apart_turn(level(5, POINT), g, (0,), (((4,),), ((3,),))), (((4,),),))
        self.assertEqual(gathered_turn(NONE, NONE, (), ()), ())
        self.assertEqual(apart_turn(NONE, NONE, (), ()), ())
        self.assertEqual(gathered_turn(NONE, level(7, POINT), (), ()), (((),),))
        self.assertEqual(apart_turn(NONE, level(7, POINT), (), (((),),)), ())
        nothing = level_patch(5, POINT, 0)
        self.assertEqual(gathered_turn(level(5, POINT), nothing, (0,), ((),)), ((),))
        self.assertEqual(apart_turn(nothing, level(5, POINT), (0,), (((),),)), (((),),))

    def test_by_words(self):
        rng = random.Random(5)
        seen = 0
        for g, f, along, back, on in turning(5, 100, gathered_patch):
            prime, other = g[0], g[1]
            led = some_map(rng, f, back)
            found = gathered_turn(f, g, along, led)
            self.assertTrue(support.is_plain(found))
            self.assertEqual(need_map(on, g, found), found)
            for y in range(other[0]):
                spots = slow.below(other, along, y)
                size = sum(f[2][x] for x in spots)
                lot = lot_by_words(f, spots)
                for unit in slow.units(size):
                    at = dict(zip(spots, support.split_at([f[2][x] for x in spots], unit)))
                    total = (0,) * g[2][y]
                    for x in spots:
                        made = lead_column(g, along[x], y, support.times(prime, led[x], at[x]))
                        total = slow.added(prime, total, made)
                    self.assertEqual(support.times(prime, found[y], rest_of(prime, lot, unit, size)), total)
                    seen += any(total)
        self.assertGreater(seen, 60)

    def test_apart_by_words(self):
        rng = random.Random(6)
        seen = 0
        for g, f, along, back, on in turning(6, 100, gathered_patch):
            prime, other = g[0], g[1]
            led = some_map(rng, on, g)
            found = apart_turn(f, g, along, led)
            self.assertTrue(support.is_plain(found))
            self.assertEqual(need_map(f, back, found), found)
            for x, y in enumerate(along):
                spots = slow.below(other, along, y)
                lot = lot_by_words(f, spots)
                for k, unit in enumerate(slow.units(f[2][x])):
                    alone = spread(f, spots, {x: unit})
                    made = support.times(prime, led[y], rest_of(prime, lot, alone, len(alone)))
                    self.assertEqual(tuple(line[k] for line in found[x]), made)
                    seen += any(made)
        self.assertGreater(seen, 60)

    def test_they_undo_each_other(self):
        rng = random.Random(7)
        for g, f, along, back, on in turning(7, 100, gathered_patch):
            led, more = some_map(rng, f, back), some_map(rng, on, g)
            self.assertEqual(apart_turn(f, g, along, gathered_turn(f, g, along, led)), led)
            self.assertEqual(gathered_turn(f, g, along, apart_turn(f, g, along, more)), more)


def zeros(one, other):
    return tuple(support.zero_table(b, a) for a, b in zip(one[2], other[2]))


class ErrorsTest(unittest.TestCase):

    def test_what_moving_raises(self):
        # Of a spot of the size 9 alone: over one spot, and over five of a chain.
        nine, six = flat(3, 8, 1), flat(3, *(0,) * 6)
        for name, f, g, along, limit in (
                ("on", nine, level_patch(3, POINT, 0), (0, 0), 8),
                ("back", six, level_patch(3, POINT, 3), (0,) * 6, None),
                ("back", six, slow.flat(3, POINT, (8,)), (0,) * 6, 40),
                # What moving back raises stands ahead of what moving on raises.
                ("both", flat(3, 8, 1, 0, 0, 0), slow.flat(3, POINT, (8,)), (0,) * 6, 40)):
            back = told(back_patch, g, f[1], along) or (3, f[1], tuple(g[2][y] for y in along), ())
            size = sum(f[2])
            expected = limit and ("TooMany", limit)
            self.assertEqual(support.refused(forward_turn, g, f, along, zeros(back, f)), expected, name)
            self.assertEqual(support.refused(gathered_turn, f, g, along, zeros(f, back)), expected, name)
            self.assertEqual(support.refused(back_turn, g, f, along, (support.zero_table(size, g[2][0]),)),
                             expected, name)
            self.assertEqual(support.refused(apart_turn, f, g, along, (support.zero_table(g[2][0], size),)),
                             expected, name)

    def test_40_ahead_of_8(self):
        nine, chain = flat(3, 8, 1), support.chain(5)
        g = level_patch(3, chain, 0)
        five = ((),) * 2
        self.assertEqual(support.refused(forward_turn, g, nine, (4, 4), tuple(((),) * k for k in (8, 1))),
                         ("TooMany", 40))
        self.assertEqual(support.refused(back_turn, g, nine, (4, 4), (((),) * 9,) * 5), ("TooMany", 40))
        self.assertEqual(support.refused(gathered_turn, nine, g, (0, 0), five), ("TooMany", 40))
        self.assertEqual(support.refused(apart_turn, nine, g, (0, 0), ((),) * 5), ("TooMany", 40))
        # Forward, led to the least spot alone, nine stand over one spot.
        self.assertEqual(support.refused(forward_turn, g, nine, (0, 0), tuple(((),) * k for k in (8, 1))),
                         ("TooMany", 8))
        self.assertEqual(support.refused(apart_turn, nine, g, (4, 4), ((),) * 5), ("TooMany", 8))
        # Each looks at its own way on: gathered from the top spot they are few, moved forward they are not.
        eight = flat(3, 4, 4)
        chain = support.chain(6)
        g = level_patch(3, chain, 0)
        self.assertIsNone(support.refused(gathered_turn, eight, g, (5, 5), five))
        self.assertIsNone(support.refused(apart_turn, eight, g, (5, 5), ((),) * 6))
        self.assertEqual(support.refused(forward_turn, g, eight, (5, 5), (((),) * 4,) * 2), ("TooMany", 40))
        self.assertEqual(support.refused(back_turn, g, eight, (5, 5), (((),) * 8,) * 6), ("TooMany", 40))
        self.assertIsNone(support.refused(forward_turn, g, eight, (0, 0), (((),) * 4,) * 2))
        self.assertIsNone(support.refused(back_turn, g, eight, (0, 0), (((),) * 8,) + ((),) * 5))
        self.assertEqual(support.refused(gathered_turn, eight, g, (0, 0), five), ("TooMany", 40))
        self.assertEqual(support.refused(apart_turn, eight, g, (0, 0), ((),) * 6), ("TooMany", 40))


if __name__ == "__main__":
    unittest.main()
