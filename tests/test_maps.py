"""[12], [13]: maps, kernels, images, rests."""

import random
import unittest

from patchrooms.errors import NotMap
from patchrooms.maps import (behind_map, image_maps, image_patch, is_exact, kernel_map, kernel_patch, map_space,
                             maps_size, need_map, rest_map, rest_patch, still_map)
from patchrooms.patches import level_patch, lone_patch, patch_breach
from patchrooms.tables import image, kernel
from patchrooms.tellings import tellings
from tests import support

# 0 below 1 below 2, numbers over 5.
LINE = (5, (3, ((0, 1), (0, 2), (1, 2))), (1, 2, 1), (((2,), (3,)), ((1,),), ((1, 3),)))
LEVEL = level_patch(5, LINE[1], 1)
TWO = (5, support.chain(2), (1, 1), (((2,),),))


def put(value, place, part):
    return value[:place] + (part,) + value[place + 1:]


def some_map(rng, one, other):
    basis = map_space(one, other)
    size = sum(a * b for a, b in zip(one[2], other[2]))
    return support.tables_of(one, other, support.random_member(rng, one[0], basis, size))


def mapped_pairs(seed, count, springs=4):
    """(one, other, a map of one to other), many of them not 0."""
    rng = random.Random(seed)
    return [(one, other, some_map(rng, one, other)) for one, other in support.patch_pairs(seed, count, springs=springs)]


def told_by(columns, parts, prime, size):
    return tuple(sum(a * column[k] for a, column in zip(parts, columns)) % prime for k in range(size))


class NeedMapTest(unittest.TestCase):

    def test_maps_are_returned(self):
        led = (((1,),), ((2,), (3,)), ((1,),))
        self.assertIs(need_map(LEVEL, LINE, led), led)
        for one, other, led in mapped_pairs(1, 80):
            self.assertIs(need_map(one, other, led), led)
        self.assertEqual(need_map((2, (0, ()), (), ()), (2, (0, ()), (), ()), ()), ())

    def test_not_fit(self):
        for other in (put(LEVEL, 0, 3), level_patch(5, support.chain(2), 1), level_patch(5, support.VEE, 1),
                      level_patch(5, support.antichain(3), 1), level_patch(5, support.order(3, (2, 1), (1, 0)), 1)):
            for value in (None, (), 7, still_map(LEVEL)):
                self.assertEqual(support.refused(need_map, LEVEL, other, value), ("NotFit",))
                self.assertEqual(support.refused(need_map, other, LEVEL, value), ("NotFit",))

    def test_no_such_tuple(self):
        led = (((1,),), ((2,), (3,)), ((1,),))
        for value in (None, 3, "abc", (), led[:2], led + (((1,),),), list(led), dict(enumerate(led))):
            self.assertEqual(support.refused(need_map, LEVEL, LINE, value), ("NotMap", -1), value)
        for table in (None, (), ((2, 3),), ((2,),), ((2,), (3,), (0,)), ((2, 0), (3, 0)), [(2,), (3,)], ([2], (3,)),
                      ((2,), (5,)), ((2,), (-1,)), ((2,), (True,)), ((False,), (3,)), ((2,), (3.0,)), ((2,), None),
                      {0: (2,), 1: (3,)}, ((2,), ("3",)), "23"):
            self.assertEqual(support.refused(need_map, LEVEL, LINE, put(led, 1, table)), ("NotMap", -1), table)
        # A wrong table is told ahead of roads that differ.
        self.assertEqual(support.refused(need_map, LEVEL, LINE, (((2,),), ((2,), (3,)), ((5,),))), ("NotMap", -1))

    def test_tables_turned_about(self):
        self.assertEqual(support.refused(need_map, LINE, LEVEL, (((0,),), ((0,), (0,)), ((0,),))), ("NotMap", -1))
        self.assertIsNone(support.refused(need_map, LINE, LEVEL, (((0,),), ((0, 0),), ((0,),))))

    def test_sizes_0(self):
        one, other = level_patch(3, support.chain(2), 0), level_patch(3, support.chain(2), 2)
        self.assertEqual(need_map(one, other, (((), ()), ((), ()))), (((), ()), ((), ())))
        self.assertEqual(need_map(other, one, ((), ())), ((), ()))
        self.assertEqual(need_map(one, one, ((), ())), ((), ()))
        self.assertEqual(support.refused(need_map, one, other, ((), ())), ("NotMap", -1))
        self.assertEqual(support.refused(need_map, other, one, (((), ()), ((), ()))), ("NotMap", -1))

    def test_first_roads_that_differ(self):
        # The pairs are (0, 1), (0, 2), (1, 2).
        for value, place in (((((1,),), ((2,), (4,)), ((1,),)), 0), ((((1,),), ((2,), (3,)), ((2,),)), 1),
                             ((((2,),), ((2,), (3,)), ((1,),)), 0), ((((0,),), ((0,), (0,)), ((1,),)), 1)):
            self.assertEqual(support.refused(need_map, LEVEL, LINE, value), ("NotMap", place))
        bent = support.order(3, (0, 2), (1, 2))
        one = level_patch(5, bent, 1)
        self.assertEqual(support.refused(need_map, one, one, (((1,),), ((2,),), ((1,),))), ("NotMap", 1))
        self.assertEqual(support.refused(need_map, one, one, (((2,),), ((2,),), ((1,),))), ("NotMap", 0))

    def test_entries_put_otherwise(self):
        rng = random.Random(2)
        wrong = 0
        for one, other, led in mapped_pairs(3, 200):
            places = [x for x in range(one[1][0]) if one[2][x] and other[2][x]]
            if not places:
                continue
            x = rng.choice(places)
            led = put(led, x, support.random_table(rng, one[0], other[2][x], one[2][x]))
            place = support.roads_agree(one, other, led)
            wrong += place is not None
            self.assertEqual(support.refused(need_map, one, other, led), None if place is None else ("NotMap", place))
        self.assertGreater(wrong, 40)


class StillAndBehindTest(unittest.TestCase):

    def test_given(self):
        self.assertEqual(still_map(LINE), (((1,),), ((1, 0), (0, 1)), ((1,),)))
        self.assertEqual(still_map((2, (0, ()), (), ())), ())
        self.assertEqual(still_map(level_patch(2, support.VEE, 0)), ((), (), ()))
        first = (((3,),), ((1,), (4,)), ((3,),))
        self.assertEqual(need_map(LEVEL, LINE, first), first)
        self.assertEqual(behind_map(LEVEL, LEVEL, LINE, (((2,),),) * 3, first), (((1,),), ((2,), (3,)), ((1,),)))

    def test_by_tables(self):
        rng = random.Random(4)
        for one, other, first in mapped_pairs(4, 80):
            third = support.random_patch(rng, one[0], one[1])
            second = some_map(rng, other, third)
            both = behind_map(one, other, third, first, second)
            self.assertEqual(both, tuple(support.matrix_times(one[0], first[x], second[x], one[2][x])
                                         for x in range(one[1][0])))
            self.assertIs(need_map(one, third, both), both)
            self.assertEqual(behind_map(one, one, other, still_map(one), first), first)
            self.assertEqual(behind_map(one, other, other, first, still_map(other)), first)

    def test_behind_by_a_patch_of_sizes_0(self):
        one, other = level_patch(3, support.chain(2), 0), level_patch(3, support.chain(2), 2)
        led = behind_map(other, one, other, ((), ()), (((), ()), ((), ())))
        self.assertEqual(led, (((0, 0), (0, 0)), ((0, 0), (0, 0))))


class MapSpaceTest(unittest.TestCase):

    def test_given(self):
        self.assertEqual(map_space(LEVEL, LINE), ((1, 2, 3, 1),))
        self.assertEqual(map_space(TWO, level_patch(5, support.chain(2), 1)), ((1, 3),))
        wide = (3, (1, ()), (2,), ())
        self.assertEqual(map_space(wide, wide), support.identity(4))
        self.assertEqual(map_space((3, (0, ()), (), ()), (3, (0, ()), (), ())), ())
        self.assertEqual(maps_size(level_patch(3, support.VEE, 0), level_patch(3, support.VEE, 2)), 0)
        # Line by line, spot by spot.
        one, other = (3, (2, ()), (2, 1), ()), (3, (2, ()), (1, 2), ())
        self.assertEqual(len(map_space(one, other)), 4)
        low = (3, support.chain(2), (2, 1), (((1, 2),),))
        self.assertEqual(map_space(low, level_patch(3, support.chain(2), 1)), ((1, 2, 1),))
        self.assertEqual(map_space(level_patch(3, support.chain(2), 2), low), ((1, 0, 0, 0, 1, 0), (0, 1, 0, 0, 0, 1),
                                                                              (0, 0, 1, 0, 2, 0), (0, 0, 0, 1, 0, 2)))

    def test_against_all_columns(self):
        tried = 0
        for one, other in support.patch_pairs(5, 300, springs=3):
            size = sum(a * b for a, b in zip(one[2], other[2]))
            if one[0] ** size > 2500:
                continue
            tried += size > 0
            found = map_space(one, other)
            self.assertTrue(support.is_plain(found))
            self.assertTrue(support.is_reduced(found))
            expected = {column for column in support.all_columns(one[0], size)
                        if support.roads_agree(one, other, support.tables_of(one, other, column)) is None}
            self.assertEqual(support.span(one[0], found, size), expected)
            self.assertEqual(maps_size(one, other), len(found))
        self.assertGreater(tried, 120)

    def test_of_greater_patches(self):
        for one, other in support.patch_pairs(6, 60, springs=7):
            size = sum(a * b for a, b in zip(one[2], other[2]))
            lines = self.all_lines(one, other, size)
            if size > 160:
                self.assertEqual(support.refused(map_space, one, other), ("TooMany", 160))
                continue
            found = map_space(one, other)
            self.assertTrue(support.is_reduced(found))
            self.assertEqual(len(found), size - support.rank_of(one[0], lines))
            for column in found:
                self.assertIsNone(support.roads_agree(one, other, support.tables_of(one, other, column)))

    def all_lines(self, one, other, size):
        """What the roads of all pairs differ by, for each unit column, turned into lines."""
        units = []
        for unit in support.identity(size):
            led = support.tables_of(one, other, unit)
            differences = []
            for place, (x, y) in enumerate(one[1][1]):
                first = support.matrix_times(one[0], one[3][place], led[y], one[2][x])
                second = support.matrix_times(one[0], led[x], other[3][place], one[2][x])
                differences += [(a - b) % one[0] for p, q in zip(first, second) for a, b in zip(p, q)]
            units.append(differences)
        return units

    def test_maps_of_the_level_patch_are_tellings(self):
        for patch in support.patches(7, 120, springs=5):
            level = level_patch(patch[0], patch[1], 1)
            self.assertEqual(map_space(level, patch), tellings(patch, tuple(range(patch[1][0]))))

    def test_maps_of_and_to_lone_patches(self):
        for patch in support.patches(8, 100, springs=5):
            prime, order, sizes, _ = patch
            for x in range(order[0]):
                lone = lone_patch(prime, order, x)
                lines = [line for a, b in order[1] if a == x for line in support.lead_table(patch, a, b)]
                self.assertEqual(maps_size(lone, patch), sizes[x] - support.rank_of(prime, lines))
                columns = [tuple(line[k] for line in support.lead_table(patch, a, b))
                           for a, b in order[1] if b == x for k in range(sizes[a])]
                self.assertEqual(maps_size(patch, lone), sizes[x] - support.rank_of(prime, columns))

    def test_just_160_entries_and_more(self):
        just = (2, support.antichain(10), (4,) * 10, ())
        self.assertEqual(len(map_space(just, just)), 160)
        self.assertEqual(maps_size(just, just), 160)
        one = (3, support.antichain(4), (8, 8, 8, 3), ())
        other = (3, support.antichain(4), (8, 8, 3, 3), ())
        self.assertEqual(sum(a * b for a, b in zip(one[2], other[2])), 161)
        for function in (map_space, maps_size):
            self.assertEqual(support.refused(function, one, other), ("TooMany", 160))
        self.assertEqual(maps_size(one, put(other, 2, (8, 8, 4, 0))), 160)
        # Entries are counted, not maps: of these there is none but zeros.
        high = (2, support.chain(5), (8,) * 5, tuple(support.zero_table(8, 8) for _ in range(10)))
        self.assertEqual(support.refused(map_space, high, high), ("TooMany", 160))

    def test_not_fit_comes_first(self):
        big = (2, support.antichain(5), (8,) * 5, ())
        for other in (put(big, 0, 3), (2, support.antichain(4), (8,) * 4, ()),
                      (2, support.order(5, (0, 1)), (8,) * 5, (support.identity(8),))):
            for function in (map_space, maps_size):
                self.assertEqual(support.refused(function, big, other), ("NotFit",))
                self.assertEqual(support.refused(function, other, big), ("NotFit",))


class KernelImageRestTest(unittest.TestCase):

    def test_given(self):
        led = (((0,),), ((3, 3),), ((2,),))
        down = (5, LINE[1], (1, 1, 1), (((0,),), ((0,),), ((4,),)))
        line = put(LINE, 3, (((1,), (4,)), ((0,),), ((1, 1),)))
        self.assertIsNone(patch_breach(line))
        self.assertIs(need_map(line, down, led), led)
        self.assertEqual(kernel_patch(line, down, led), (5, LINE[1], (1, 1, 0), (((1,),), (), ())))
        self.assertEqual(kernel_map(line, down, led), (((1,),), ((1,), (4,)), ((),)))
        self.assertEqual(image_patch(line, down, led), (5, LINE[1], (0, 1, 1), (((),), ((),), ((4,),))))
        self.assertEqual(image_maps(line, down, led), (((), ((3, 3),), ((2,),)), (((),), ((1,),), ((1,),))))
        self.assertEqual(rest_patch(line, down, led), (5, LINE[1], (1, 0, 0), ((), (), ())))
        self.assertEqual(rest_map(line, down, led), (((1,),), (), ()))

    def test_rests_in_the_midst(self):
        one, other = (5, (1, ()), (1,), ()), (5, (1, ()), (3,), ())
        led = (((0,), (2,), (1,)),)
        self.assertEqual(rest_map(one, other, led), (((1, 0, 0), (0, 2, 1)),))
        self.assertEqual(rest_patch(one, other, led), (5, (1, ()), (2,), ()))
        self.assertEqual(image_maps(one, other, led), ((((2,),),), (((0,), (1,), (3,)),)))

    def test_by_words(self):
        for one, other, led in mapped_pairs(9, 160, springs=5):
            prime, order = one[0], one[1]
            lost = [kernel(prime, led[x], one[2][x]) for x in range(order[0])]
            reached = [image(prime, led[x], one[2][x]) for x in range(order[0])]
            part, seen, left = kernel_patch(one, other, led), image_patch(one, other, led), rest_patch(one, other, led)
            for patch in (part, seen, left):
                self.assertTrue(support.is_plain(patch))
                self.assertIsNone(patch_breach(patch))
                self.assertEqual(patch[:2], (prime, order))
            self.assertEqual(part[2], tuple(len(basis) for basis in lost))
            self.assertEqual(seen[2], tuple(len(basis) for basis in reached))
            self.assertEqual(tuple(a + b for a, b in zip(part[2], seen[2])), one[2])
            self.assertEqual(tuple(a + b for a, b in zip(seen[2], left[2])), other[2])
            self.check_told(part, one, kernel_map(one, other, led), lost)
            ahead, behind = image_maps(one, other, led)
            self.check_told(seen, other, behind, reached)
            self.assertIs(need_map(one, seen, ahead), ahead)
            self.assertEqual(behind_map(one, seen, other, ahead, behind), led)
            onto = rest_map(one, other, led)
            self.assertIs(need_map(other, left, onto), onto)
            self.check_rests(other, onto, reached)

    def check_told(self, part, patch, led, bases):
        """The map leads unit columns to those of the basis, and is a map, so the leads are theirs."""
        self.assertIs(need_map(part, patch, led), led)
        for x, basis in enumerate(bases):
            for k, unit in enumerate(support.identity(part[2][x])):
                self.assertEqual(support.times(patch[0], led[x], unit), basis[k])

    def check_rests(self, other, onto, reached):
        rng = random.Random(10)
        for x, basis in enumerate(reached):
            leads = support.lead_places(basis)
            column = support.random_column(rng, other[0], other[2][x])
            near = told_by(basis, [column[place] for place in leads], other[0], other[2][x])
            rest = tuple((a - b) % other[0] for k, (a, b) in enumerate(zip(column, near)) if k not in leads)
            self.assertEqual(support.times(other[0], onto[x], column), rest)

    def test_rows_that_a_map_makes_are_exact(self):
        unlike = 0
        for one, other, led in mapped_pairs(11, 120, springs=5):
            part, seen, left = kernel_patch(one, other, led), image_patch(one, other, led), rest_patch(one, other, led)
            ahead, behind = image_maps(one, other, led)
            into, onto = kernel_map(one, other, led), rest_map(one, other, led)
            self.assertIs(is_exact(part, one, other, into, led), True)
            self.assertIs(is_exact(one, other, left, led, onto), True)
            self.assertIs(is_exact(part, one, seen, into, ahead), True)
            self.assertIs(is_exact(seen, other, left, behind, onto), True)
            zeros = tuple(support.zero_table(a, b) for a, b in zip(left[2], other[2]))
            self.assertIs(is_exact(one, other, left, led, zeros), not any(left[2]))
            self.assertIs(is_exact(one, one, other, still_map(one), led), not any(map(any, sum(led, ()))))
            unlike += any(left[2])
        self.assertGreater(unlike, 20)

    def test_exact_at_each_spot(self):
        two = level_patch(3, support.antichain(2), 2)
        half, other = ((1, 0), (0, 0)), ((0, 0), (0, 1))
        self.assertIs(is_exact(two, two, two, (half, half), (other, other)), True)
        self.assertIs(is_exact(two, two, two, (half, half), (other, half)), False)
        self.assertIs(is_exact(two, two, two, (half, half), (half, other)), False)
        self.assertIs(is_exact(two, two, two, (half, half), (other, support.zero_table(2, 2))), False)
        empty = (3, (0, ()), (), ())
        self.assertIs(is_exact(empty, empty, empty, (), ()), True)

    def test_orders_without_spots_and_sizes_0(self):
        empty = (3, (0, ()), (), ())
        for function in (kernel_patch, image_patch, rest_patch):
            self.assertEqual(function(empty, empty, ()), empty)
        self.assertEqual(kernel_map(empty, empty, ()), ())
        self.assertEqual(image_maps(empty, empty, ()), ((), ()))
        self.assertEqual(rest_map(empty, empty, ()), ())
        none, two = level_patch(3, support.chain(2), 0), level_patch(3, support.chain(2), 2)
        self.assertEqual(rest_patch(none, two, (((), ()), ((), ()))), two)
        self.assertEqual(rest_map(none, two, (((), ()), ((), ()))), still_map(two))
        self.assertEqual(kernel_patch(two, none, ((), ())), two)
        self.assertEqual(image_maps(two, none, ((), ())), (((), ()), ((), ())))
        self.assertEqual(image_maps(none, two, (((), ()), ((), ()))), (((), ()), (((), ()), ((), ()))))
        self.assertEqual(kernel_map(none, two, (((), ()), ((), ()))), ((), ()))

    def test_not_map_has_the_place(self):
        with self.assertRaises(NotMap) as caught:
            need_map(TWO, TWO, (((1,),), ((2,),)))
        self.assertEqual(caught.exception.place, 0)


if __name__ == "__main__":
    unittest.main()
