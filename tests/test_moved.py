"""[33] to [35]: patches and maps moved along a leading."""

import random
import unittest

from patchrooms.holes import hole_sizes
from patchrooms.leadings import bared_leading
from patchrooms.lots import rest_of
from patchrooms.maps import behind_map, map_space, maps_size, need_map, still_map
from patchrooms.moved import back_patch, forward_hole_sizes, forward_patch, gathered_patch, is_tight, moved_map
from patchrooms.patches import cut_patch, level_patch, lone_patch, patch_breach
from patchrooms.splits import is_same
from patchrooms.tables import reduced
from patchrooms.tellings import tellings
from tests import slow, support

NONE = (7, slow.EMPTY, (), ())
POINT = (1, ())


def level(prime, order):
    return level_patch(prime, order, 1)


def told(action, *args):
    """What is returned, None for a refusal."""
    try:
        return action(*args)
    except ValueError:
        return None


def spread(patch, spots, parts):
    """The column over the spots that tells the parts, and zeros elsewhere."""
    return tuple(entry for x in spots for entry in parts.get(x, (0,) * patch[2][x]))


def lot_by_words(patch, spots):
    """The least lot with each column v at x and the opposite of what it is led to above x, both of the spots."""
    prime, size, found = patch[0], sum(patch[2][x] for x in spots), []
    for x, y in patch[1][1]:
        if x in spots and y in spots:
            for unit in slow.units(patch[2][x]):
                led = support.times(prime, support.lead_table(patch, x, y), unit)
                found.append(spread(patch, spots, {x: unit, y: tuple(-entry % prime for entry in led)}))
    return reduced(prime, tuple(found), size)


def some_map(rng, one, other):
    basis = map_space(one, other)
    size = sum(a * b for a, b in zip(one[2], other[2]))
    return support.tables_of(one, other, support.random_member(rng, one[0], basis, size))


def maps_over(seed, count, many=2):
    """(one, other, a map, order, a leading of theirs to it)."""
    rng = random.Random(seed)
    found = []
    for one, other in slow.made_pairs(seed, count, many, slow.SMALL) + support.patch_pairs(seed, count,
                                                                                          orders=slow.SMALL):
        if not support.refused(map_space, one, other):
            order, along = slow.leading_on(rng, one[1])
            found.append((one, other, some_map(rng, one, other), order, along))
    return found


def flat(prime, *sizes):
    return slow.flat(prime, support.antichain(len(sizes)), sizes)


class BackTest(unittest.TestCase):

    def test_given(self):
        patch = (5, support.chain(2), (1, 2), (((2,), (3,)),))
        self.assertEqual(back_patch(patch, support.chain(3), (0, 0, 1)),
                         (5, support.chain(3), (1, 1, 2), (((1,),), ((2,), (3,)), ((2,), (3,)))))
        self.assertEqual(back_patch(patch, support.antichain(2), (1, 0)), (5, support.antichain(2), (2, 1), ()))
        self.assertEqual(back_patch(patch, support.chain(2), (1, 1)), level_patch(5, support.chain(2), 2))
        self.assertEqual(back_patch(patch, slow.EMPTY, ()), (5, slow.EMPTY, (), ()))
        self.assertEqual(back_patch(NONE, slow.EMPTY, ()), NONE)
        self.assertEqual(back_patch(patch, support.chain(2), (0, 1)), patch)
        self.assertEqual(back_patch(level_patch(3, POINT, 0), support.CROWN, (0,) * 4),
                         level_patch(3, support.CROWN, 0))

    def test_by_words(self):
        rng = random.Random(1)
        for patch in slow.made_patches(1, 80) + slow.patches(1, 80):
            one = rng.choice([value for value in slow.SMALL if patch[1][0] or not value[0]])
            led = slow.random_leading(rng, one, patch[1])
            found = told(back_patch, patch, one, led)
            sizes = tuple(patch[2][y] for y in led)
            if found is None:
                self.assertGreater(sum(sizes), 40)
                continue
            self.assertTrue(support.is_plain(found))
            self.assertIsNone(patch_breach(found))
            self.assertEqual(found, (patch[0], one, sizes, tuple(support.lead_table(patch, led[x], led[y])
                                                                 for x, y in one[1])))

    def test_bound(self):
        patch = slow.flat(3, support.chain(2), (8, 1))
        self.assertEqual(back_patch(patch, support.antichain(5), (0,) * 5)[2], (8,) * 5)
        for order, led in ((support.antichain(6), (0,) * 6), (support.chain(6), (0,) * 5 + (1,)),
                           (support.chain(16), (0,) * 16)):
            self.assertEqual(support.refused(back_patch, patch, order, led), ("TooMany", 40))
        self.assertEqual(back_patch(patch, support.chain(16), (0,) * 3 + (1,) * 13)[2], (8,) * 3 + (1,) * 13)


class ForwardTest(unittest.TestCase):

    def test_given(self):
        crown = level(5, support.CROWN)
        self.assertEqual(forward_patch(crown, support.chain(2), (0, 0, 1, 1)),
                         (5, support.chain(2), (1, 2), (((1,), (1,)),)))
        self.assertEqual(forward_patch(crown, POINT, (0,) * 4), (5, POINT, (1,), ()))
        # Nothing is led to the top spot, or above it.
        self.assertEqual(forward_patch(crown, support.chain(3), (0, 0, 1, 1))[2], (1, 2, 0))
        self.assertEqual(forward_patch(crown, support.VEE, (0, 0, 1, 1)),
                         (5, support.VEE, (1, 2, 0), (((1,), (1,)), ())))
        self.assertEqual(forward_patch(NONE, support.VEE, ()), level_patch(7, support.VEE, 0))
        self.assertEqual(forward_patch(NONE, slow.EMPTY, ()), NONE)
        patch = (5, support.chain(2), (1, 2), (((2,), (3,)),))
        # A telling on both spots is told by what it tells at the lower one, as its basis begins with 1.
        self.assertEqual(forward_patch(patch, support.chain(2), (0, 1)), patch)
        self.assertEqual(forward_patch(level_patch(3, support.CROWN, 0), POINT, (0,) * 4), level_patch(3, POINT, 0))
        # A spot between, to which nothing is led, has the tellings above it.
        self.assertEqual(forward_patch(patch, support.chain(3), (0, 2)),
                         (5, support.chain(3), (1, 2, 2), (((2,), (3,)), ((2,), (3,)), ((1, 0), (0, 1)))))

    def test_by_words(self):
        seen = 0
        for patch, other, led in slow.moving(2, 120):
            upper = [slow.above(other, led, y) for y in range(other[0])]
            bases = [tellings(patch, spots) for spots in upper]
            sizes = tuple(len(slow.tellings(patch, spots)) for spots in upper)
            found = told(forward_patch, patch, other, led)
            if found is None:
                self.assertFalse(support.sizes_fit(sizes))
                continue
            self.assertTrue(support.is_plain(found))
            self.assertIsNone(patch_breach(found))
            self.assertEqual(found[:3], (patch[0], other, sizes))
            for place, (y, z) in enumerate(other[1]):
                for k, telling in enumerate(bases[y]):
                    cut = slow.cut_column(patch, upper[y], upper[z], telling)
                    parts = tuple(line[k] for line in found[3][place])
                    self.assertEqual(slow.combined(patch[0], parts, bases[z], len(cut)), cut)
                    seen += any(parts)
        self.assertGreater(seen, 60)

    def test_bound(self):
        self.assertEqual(forward_patch(flat(3, 8, 8, 8, 8, 8), support.antichain(5), (4, 3, 2, 1, 0))[2], (8,) * 5)
        self.assertEqual(forward_patch(flat(3, 3, 5), POINT, (0, 0))[2], (8,))
        self.assertEqual(support.refused(forward_patch, flat(3, 3, 6), POINT, (0, 0)), ("TooMany", 8))
        self.assertEqual(support.refused(forward_patch, flat(3, 3, 6), support.chain(5), (4, 4)), ("TooMany", 40))
        self.assertEqual(support.refused(forward_patch, flat(3, 3, 6), support.chain(4), (3, 3)), ("TooMany", 8))
        self.assertEqual(support.refused(forward_patch, flat(3, 8), support.chain(6), (5,)), ("TooMany", 40))
        self.assertEqual(forward_patch(flat(3, 8), support.chain(5), (4,))[2], (8,) * 5)
        self.assertEqual(support.refused(forward_patch, flat(3, 8, 8, 8, 8, 8), POINT, (0,) * 5), ("TooMany", 8))

    def test_led_to_one_spot(self):
        for patch in slow.patches(3, 60):
            found = told(forward_patch, patch, POINT, (0,) * patch[1][0])
            if found is not None:
                self.assertEqual(found[2], (len(slow.tellings(patch, tuple(range(patch[1][0])))),))


class GatheredTest(unittest.TestCase):

    def test_given(self):
        crown = level(5, support.CROWN)
        self.assertEqual(gathered_patch(crown, support.chain(2), (0, 0, 1, 1)),
                         (5, support.chain(2), (2, 1), (((1, 1),),)))
        self.assertEqual(gathered_patch(crown, POINT, (0,) * 4), (5, POINT, (1,), ()))
        self.assertEqual(gathered_patch(crown, support.chain(3), (1, 1, 2, 2))[2], (0, 2, 1))
        self.assertEqual(gathered_patch(NONE, support.VEE, ()), level_patch(7, support.VEE, 0))
        self.assertEqual(gathered_patch(NONE, slow.EMPTY, ()), NONE)
        patch = (5, support.chain(2), (1, 2), (((2,), (3,)),))
        self.assertEqual(gathered_patch(patch, support.chain(2), (0, 1)), patch)
        # At both spots, (1, -2, -3) made zeros: (1, 0, 0) has the rest (2, 3).
        self.assertEqual(gathered_patch(patch, support.chain(2), (0, 0)), level_patch(5, support.chain(2), 2))
        self.assertEqual(gathered_patch(patch, support.chain(3), (0, 2)),
                         (5, support.chain(3), (1, 1, 2), (((1,),), ((2,), (3,)), ((2,), (3,)))))
        # Two columns led from one spot to two tops: the tops agree on it.
        roof = (5, support.VEE, (1, 1, 1), (((2,),), ((3,),)))
        self.assertEqual(gathered_patch(roof, POINT, (0,) * 3), (5, POINT, (1,), ()))

    def test_by_words(self):
        seen = 0
        for patch, other, led in slow.moving(4, 120):
            prime = patch[0]
            lower = [slow.below(other, led, y) for y in range(other[0])]
            lots = [lot_by_words(patch, spots) for spots in lower]
            whole = [sum(patch[2][x] for x in spots) for spots in lower]
            sizes = tuple(size - len(lot) for size, lot in zip(whole, lots))
            found = told(gathered_patch, patch, other, led)
            if found is None:
                self.assertFalse(support.sizes_fit(sizes))
                continue
            self.assertTrue(support.is_plain(found))
            self.assertIsNone(patch_breach(found))
            self.assertEqual(found[:3], (prime, other, sizes))
            for place, (y, z) in enumerate(other[1]):
                for unit in slow.units(whole[y]):
                    parts = dict(zip(lower[y], support.split_at([patch[2][x] for x in lower[y]], unit)))
                    put = rest_of(prime, lots[z], spread(patch, lower[z], parts), whole[z])
                    rest = rest_of(prime, lots[y], unit, whole[y])
                    self.assertEqual(support.times(prime, found[3][place], rest), put)
                    seen += any(put)
        self.assertGreater(seen, 60)

    def test_bound(self):
        self.assertEqual(gathered_patch(flat(3, 8, 8, 8, 8, 8), support.antichain(5), (4, 3, 2, 1, 0))[2], (8,) * 5)
        self.assertEqual(gathered_patch(flat(3, 3, 5), POINT, (0, 0))[2], (8,))
        self.assertEqual(support.refused(gathered_patch, flat(3, 3, 6), POINT, (0, 0)), ("TooMany", 8))
        self.assertEqual(support.refused(gathered_patch, flat(3, 3, 6), support.chain(5), (0, 0)), ("TooMany", 40))
        self.assertEqual(support.refused(gathered_patch, flat(3, 3, 6), support.chain(4), (0, 0)), ("TooMany", 8))
        self.assertEqual(support.refused(gathered_patch, flat(3, 8), support.chain(6), (0,)), ("TooMany", 40))
        self.assertEqual(gathered_patch(flat(3, 8), support.chain(5), (0,))[2], (8,) * 5)


class SeveralTest(unittest.TestCase):
    """[34]."""

    def test_maps_from_what_is_moved_back(self):
        rng = random.Random(5)
        seen = 0
        for f, other, led in slow.moving(5, 100):
            g = slow.made_patch(rng, f[0], other, 2)
            back, forward, gathered = (told(back_patch, g, f[1], led), told(forward_patch, f, other, led),
                                       told(gathered_patch, f, other, led))
            if back is not None and forward is not None and slow.most_loads(back) <= 160:
                seen += maps_size(back, f) > 0
                self.assertEqual(maps_size(back, f), maps_size(g, forward))
            if back is not None and gathered is not None:
                seen += maps_size(f, back) > 0
                self.assertEqual(maps_size(gathered, g), maps_size(f, back))
        self.assertGreater(seen, 100)

    def test_two_leadings_one_behind_the_other(self):
        rng = random.Random(6)
        seen = 0
        for patch, other, led in slow.moving(6, 100):
            third, further = slow.leading_on(rng, other)
            both = tuple(further[y] for y in led)
            g = slow.made_patch(rng, patch[0], third, 1)
            middle = told(back_patch, g, other, further)
            if middle is not None and told(back_patch, middle, patch[1], led) is not None:
                self.assertEqual(back_patch(middle, patch[1], led), back_patch(g, patch[1], both))
            for move in (forward_patch, gathered_patch):
                middle = told(move, patch, other, led)
                if middle is None or told(move, patch, third, both) is None:
                    continue
                first, second = told(move, middle, third, further), move(patch, third, both)
                self.assertEqual(first[2], second[2])
                if not support.refused(is_same, first, second):
                    self.assertTrue(is_same(first, second))
                    seen += any(first[2])
        self.assertGreater(seen, 100)


class MovedMapTest(unittest.TestCase):

    def test_given(self):
        crown = level(5, support.CROWN)
        thrice, chain, along = (((3,),),) * 4, support.chain(2), (0, 0, 1, 1)
        self.assertEqual(moved_map(crown, crown, thrice, chain, along, "forward"), (((3,),), ((3, 0), (0, 3))))
        self.assertEqual(moved_map(crown, crown, thrice, chain, along, "gathered"), (((3, 0), (0, 3)), ((3,),)))
        patch = (5, chain, (1, 2), (((2,), (3,)),))
        led = (((4,),), ((4, 0), (0, 4)))
        self.assertEqual(moved_map(patch, patch, led, support.chain(3), (0, 1, 1), "back"), (led[0], led[1], led[1]))
        self.assertEqual(moved_map(patch, patch, led, slow.EMPTY, (), "back"), ())
        for way in ("back", "forward", "gathered"):
            self.assertEqual(moved_map(NONE, NONE, (), slow.EMPTY, (), way), ())
        for way in ("forward", "gathered"):
            self.assertEqual(moved_map(NONE, NONE, (), support.VEE, (), way), ((), (), ()))
        nothing = level_patch(5, support.CROWN, 0)
        self.assertEqual(moved_map(nothing, crown, (((),),) * 4, chain, along, "forward"), (((),), ((), ())))
        self.assertEqual(moved_map(nothing, crown, (((),),) * 4, chain, along, "gathered"), (((), ()), ((),)))
        self.assertEqual(moved_map(crown, nothing, ((),) * 4, chain, along, "gathered"), ((), ()))

    def test_back(self):
        rng = random.Random(7)
        for one, other, led, _, _ in maps_over(7, 60):
            order = rng.choice([value for value in slow.SMALL if one[1][0] or not value[0]])
            along = slow.random_leading(rng, order, one[1])
            parts = [told(back_patch, patch, order, along) for patch in (one, other)]
            if None not in parts:
                found = moved_map(one, other, led, order, along, "back")
                self.assertEqual(found, tuple(led[y] for y in along))
                self.assertEqual(need_map(*parts, found), found)

    def test_forward(self):
        seen = 0
        for one, other, led, order, along in maps_over(8, 100):
            prime = one[0]
            parts = [told(forward_patch, patch, order, along) for patch in (one, other)]
            if None in parts:
                continue
            found = moved_map(one, other, led, order, along, "forward")
            self.assertTrue(support.is_plain(found))
            self.assertEqual(need_map(*parts, found), found)
            for y in range(order[0]):
                spots = slow.above(order, along, y)
                bases = [tellings(patch, spots) for patch in (one, other)]
                for k, telling in enumerate(bases[0]):
                    at = dict(zip(spots, support.split_at([one[2][x] for x in spots], telling)))
                    expected = tuple(entry for x in spots for entry in support.times(prime, led[x], at[x]))
                    column = tuple(line[k] for line in found[y])
                    self.assertEqual(slow.combined(prime, column, bases[1], len(expected)), expected)
                    seen += any(expected)
        self.assertGreater(seen, 60)

    def test_gathered(self):
        seen = 0
        for one, other, led, order, along in maps_over(9, 100):
            prime = one[0]
            parts = [told(gathered_patch, patch, order, along) for patch in (one, other)]
            if None in parts:
                continue
            found = moved_map(one, other, led, order, along, "gathered")
            self.assertTrue(support.is_plain(found))
            self.assertEqual(need_map(*parts, found), found)
            for y in range(order[0]):
                spots = slow.below(order, along, y)
                lots = [lot_by_words(patch, spots) for patch in (one, other)]
                size = sum(one[2][x] for x in spots)
                for unit in slow.units(size):
                    at = dict(zip(spots, support.split_at([one[2][x] for x in spots], unit)))
                    made = tuple(entry for x in spots for entry in support.times(prime, led[x], at[x]))
                    expected = rest_of(prime, lots[1], made, len(made))
                    self.assertEqual(support.times(prime, found[y], rest_of(prime, lots[0], unit, size)), expected)
                    seen += any(expected)
        self.assertGreater(seen, 60)

    def test_one_behind_the_other(self):
        rng = random.Random(10)
        moves = {"forward": forward_patch, "gathered": gathered_patch}
        for one, other, first, order, along in maps_over(10, 60):
            third = slow.made_patch(rng, one[0], one[1], 1)
            if support.refused(map_space, other, third):
                continue
            second = some_map(rng, other, third)
            both = behind_map(one, other, third, first, second)
            for way, move in moves.items():
                parts = [told(move, patch, order, along) for patch in (one, other, third)]
                if None in parts:
                    continue
                found = behind_map(*parts, moved_map(one, other, first, order, along, way),
                                   moved_map(other, third, second, order, along, way))
                self.assertEqual(found, moved_map(one, third, both, order, along, way))
                self.assertEqual(moved_map(one, one, still_map(one), order, along, way), still_map(parts[0]))

    def test_errors(self):
        fine, nine, wide = flat(3, 0, 0, 1), flat(3, 8, 1, 0), flat(3, 8, 8, 8)
        for way in ("forward", "gathered"):
            for one, other, limit in ((fine, nine, 8), (nine, fine, 8), (nine, nine, 8)):
                led = tuple(support.zero_table(b, a) for a, b in zip(one[2], other[2]))
                self.assertEqual(support.refused(moved_map, one, other, led, POINT, (0,) * 3, way), ("TooMany", limit))
            # For one first, then for other.
            order, along = ((2, ((0, 1),)), (1, 1, 1)) if way == "forward" else ((2, ((0, 1),)), (0, 0, 0))
            for one, other, limit in ((nine, wide, 8), (wide, nine, 40), (fine, wide, 40), (wide, fine, 40)):
                led = tuple(support.zero_table(b, a) for a, b in zip(one[2], other[2]))
                self.assertEqual(support.refused(moved_map, one, other, led, order, along, way), ("TooMany", limit))
        low, high = slow.flat(3, POINT, (1,)), slow.flat(3, POINT, (8,))
        for one, other in ((low, high), (high, low), (high, high)):
            led = (support.zero_table(other[2][0], one[2][0]),)
            self.assertEqual(support.refused(moved_map, one, other, led, support.antichain(6), (0,) * 6, "back"),
                             ("TooMany", 40))
            self.assertEqual(len(moved_map(one, other, led, support.antichain(5), (0,) * 5, "back")), 5)


class ForwardHolesTest(unittest.TestCase):
    """[35]."""

    def test_given(self):
        crown = level(5, support.CROWN)
        self.assertEqual(forward_hole_sizes(crown, support.chain(2), (0, 0, 1, 1)), ((1, 1), (2, 0)))
        self.assertEqual(forward_hole_sizes(crown, support.chain(3), (0, 0, 1, 1)), ((1, 1), (2, 0), (0, 0)))
        self.assertEqual(forward_hole_sizes(crown, support.CROWN, (0, 1, 2, 3)), ((1, 0),) * 4)
        self.assertEqual(forward_hole_sizes(NONE, support.VEE, ()), ((), (), ()))
        self.assertEqual(forward_hole_sizes(NONE, slow.EMPTY, ()), ())
        self.assertEqual(forward_hole_sizes(level_patch(5, support.CROWN, 0), POINT, (0,) * 4), ((0, 0),))
        # No bound on sizes here.
        self.assertEqual(forward_hole_sizes(flat(3, 8, 8), POINT, (0, 0)), ((16,),))

    def test_by_words(self):
        above = 0
        for patch, other, led in slow.moving(11, 100):
            many = slow.height(patch[1]) + 1
            found = forward_hole_sizes(patch, other, led)
            self.assertTrue(support.is_plain(found))
            expected = []
            for y in range(other[0]):
                sizes = slow.hole_sizes(slow.cut(patch, slow.above(other, led, y)))
                expected.append(sizes + (0,) * (many - len(sizes)))
            self.assertEqual(found, tuple(expected))
            above += any(any(sizes[1:]) for sizes in found)
            # The sum with signs is that of the sizes of each degree over the other order.
            total = sum((-1) ** k * slow.whole_size(other, [sizes[k] for sizes in found]) for k in range(many))
            self.assertEqual(total, slow.signed(hole_sizes(patch)))
        self.assertGreater(above, 10)

    def test_holes_of_what_is_moved_forward(self):
        seen = 0
        for patch, other, led in slow.moving(12, 150):
            if not any(any(sizes[1:]) for sizes in forward_hole_sizes(patch, other, led)):
                found = told(forward_patch, patch, other, led)
                if found is not None and slow.most_loads(found) <= 160:
                    seen += any(hole_sizes(patch)[1:])
                    self.assertEqual(slow.trimmed(hole_sizes(found)), slow.trimmed(hole_sizes(patch)))
        self.assertGreater(seen, 5)

    def test_bound(self):
        for patch in (slow.MORE, slow.MORE_2, level(3, support.chain(10))):
            n = patch[1][0]
            self.assertEqual(support.refused(forward_hole_sizes, patch, POINT, (0,) * n), ("TooMany", 160))
            # Also where all cuts have few loads.
            self.assertEqual(support.refused(forward_hole_sizes, patch, patch[1], tuple(range(n))), ("TooMany", 160))
        self.assertEqual(forward_hole_sizes(slow.JUST, POINT, (0,) * 9), ((0, 128),))


class TightTest(unittest.TestCase):

    def test_given(self):
        crown, chain = support.CROWN, support.chain(2)
        self.assertIs(is_tight(3, crown, crown, (0, 1, 2, 3)), True)
        self.assertIs(is_tight(3, crown, chain, (0, 0, 1, 1)), False)
        self.assertIs(is_tight(3, crown, POINT, (0,) * 4), False)
        self.assertIs(is_tight(3, support.DIAMOND, POINT, (0,) * 4), True)
        self.assertIs(is_tight(3, support.VEE, chain, (0, 1, 1)), True)
        self.assertIs(is_tight(3, support.ROOF, chain, (0, 0, 1)), False)
        # Nothing led to a spot or below it; no spot on either side.
        self.assertIs(is_tight(3, chain, support.chain(3), (1, 2)), False)
        self.assertIs(is_tight(3, chain, support.chain(3), (0, 1)), True)
        self.assertIs(is_tight(3, chain, support.antichain(2), (0, 0)), False)
        self.assertIs(is_tight(3, slow.EMPTY, POINT, ()), False)
        self.assertIs(is_tight(3, slow.EMPTY, slow.EMPTY, ()), True)
        plane = slow.halved_cube()
        self.assertEqual([is_tight(prime, plane, POINT, (0,) * 13) for prime in support.PRIMES], [False] + [True] * 5)

    def test_by_words(self):
        rng = random.Random(13)
        seen = {True: 0, False: 0}
        for k in range(150):
            one, prime = rng.choice(slow.SMALL), support.PRIMES[k % 6]
            other, led = slow.leading_on(rng, one)
            cuts = [slow.cut(level(prime, one), slow.below(other, led, y)) for y in range(other[0])]
            expected = all(cut[1][0] > 0 and slow.trimmed(slow.hole_sizes(cut)) == (1,) for cut in cuts)
            found = is_tight(prime, one, other, led)
            self.assertIs(found, expected)
            seen[found] += 1
        self.assertGreater(min(seen.values()), 15)

    def test_holes_of_every_patch(self):
        rng = random.Random(14)
        seen, above = 0, 0
        for k in range(400):
            one, prime = rng.choice(slow.SMALL), support.PRIMES[k % 6]
            other, led = slow.leading_on(rng, one, slow.SMALL + (support.ROOF, support.CROWN) * 10)
            if rng.random() < 0.3:
                other, led = one, bared_leading(one)
                spots = tuple(sorted(set(led)))
                other, led = cut_patch(level(2, one), spots)[1], tuple(spots.index(x) for x in led)
            if not is_tight(prime, one, other, led):
                continue
            for _ in range(3):
                g = slow.made_patch(rng, prime, other, 2)
                back = told(back_patch, g, one, led)
                if back is not None and max(slow.most_loads(g), slow.most_loads(back)) <= 160:
                    seen += 1
                    above += any(hole_sizes(g)[1:])
                    self.assertEqual(slow.trimmed(hole_sizes(back)), slow.trimmed(hole_sizes(g)))
        self.assertGreater(seen, 60)
        self.assertGreater(above, 10)

    def test_bound(self):
        chain = support.chain(10)
        self.assertEqual(support.refused(is_tight, 2, chain, POINT, (0,) * 10), ("TooMany", 160))
        self.assertEqual(support.refused(is_tight, 2, chain, chain, tuple(range(10))), ("TooMany", 160))
        # Also where nothing is led to some spot.
        self.assertEqual(support.refused(is_tight, 2, chain, support.antichain(2), (1,) * 10), ("TooMany", 160))
        # The level patch of the first order alone counts.
        self.assertIs(is_tight(2, POINT, support.chain(16), (0,)), True)
        self.assertIs(is_tight(2, support.chain(9), support.chain(16), tuple(range(9))), True)
        self.assertEqual(hole_sizes(lone_patch(2, support.chain(16), 0)), (1,) + (0,) * 15)


if __name__ == "__main__":
    unittest.main()
