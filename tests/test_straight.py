"""[49], [50]: way rows made straight, maps between way rows."""

import random
import unittest

from patchrooms.maps import map_space, maps_size
from patchrooms.straight import (is_straightening, row_maps_size, row_ways_size, straight_row, straightened,
                                 stretch_maps)
from patchrooms.wayrows import cut_row, dual_row, need_way_row, row_patch, stretches, sum_row
from patchrooms.ways import ways_size, ways_sizes
from tests import slow, support
from tests.rows_to_and_fro import (ends, random_lot, random_row, random_rows, random_towards, row_pairs, sizes_of,
                                   some_rows, straight, towards_of)
from tests.test_wayrows import MEETING, ONE, TEN


def every_towards(many):
    found = [()]
    for _ in range(many):
        found = [towards + (toward,) for towards in found for toward in (1, -1)]
    return found


def every_stretch(places):
    return [(i, j) for i in range(places) for j in range(i, places)]


def is_straight_by_words(row, value):
    """Whether tables of the right sizes, which can be turned back, lead the row to the sum of its stretches."""
    prime, sizes, ways = row
    if not all(support.is_invertible(prime, table) for table in value):
        return False
    other = straight(prime, towards_of(row), stretches(row))
    for place, (toward, table) in enumerate(ways):
        low, high = ends(toward, place)
        first = support.matrix_times(prime, table, value[high], sizes[low])
        if first != support.matrix_times(prime, value[low], other[2][place][1], sizes[low]):
            return False
    return True


class StraightRowTest(unittest.TestCase):

    def test_given(self):
        self.assertEqual(straight_row(5, (1, -1), ((0, 1, 1), (1, 2, 1))),
                         (5, (1, 2, 1), ((1, ((1,), (0,))), (-1, ((0,), (1,))))))
        self.assertEqual(straight_row(5, (1,), ((0, 0, 1), (0, 1, 2))), (5, (3, 2), ((1, ((0, 1, 0), (0, 0, 1))),)))
        self.assertEqual(straight_row(5, (-1,), ((0, 0, 1), (0, 1, 2))),
                         (5, (3, 2), ((-1, ((0, 0), (1, 0), (0, 1))),)))
        self.assertEqual(straight_row(5, (1,), ((0, 1, 1), (1, 1, 1))), (5, (1, 2), ((1, ((1,), (0,))),)))
        # No stretch, and one place.
        self.assertEqual(straight_row(7, (), ()), (7, (0,), ()))
        self.assertEqual(straight_row(7, (1, -1), ()), (7, (0, 0, 0), ((1, ()), (-1, ()))))
        self.assertEqual(straight_row(7, (), ((0, 0, 8),)), (7, (8,), ()))
        self.assertEqual(straight_row(2, (1, -1) * 4 + (1,), ((0, 8, 1), (9, 9, 1))), TEN)

    def test_by_words(self):
        rng = random.Random(1)
        seen = 0
        for k in range(200):
            places = rng.randint(1, 10)
            towards, lot = random_towards(rng, places - 1), random_lot(rng, places, rng.randint(0, 5))
            if max(sizes_of(lot, places)) > 8:
                continue
            found = straight_row(support.PRIMES[k % 6], towards, lot)
            self.assertTrue(support.is_plain(found))
            self.assertEqual(need_way_row(found), found)
            self.assertEqual(found, straight(support.PRIMES[k % 6], towards, lot))
            self.assertEqual(stretches(found), lot)
            seen += any(times > 1 for _, _, times in lot)
        self.assertGreater(seen, 60)

    def test_bound(self):
        self.assertEqual(straight_row(3, (1,), ((0, 0, 5), (0, 1, 3), (1, 1, 5)))[1], (8, 8))
        for lot in (((0, 0, 6), (0, 1, 3)), ((0, 1, 9),), ((0, 1, 3), (1, 1, 6)), ((1, 1, 10 ** 9),)):
            self.assertEqual(support.refused(straight_row, 3, (1,), lot), ("TooMany", 8))
        # 80 in all is not too many.
        self.assertEqual(straight_row(3, (1,) * 9, ((0, 9, 8),))[1], (8,) * 10)


class StraighteningTest(unittest.TestCase):

    def test_found(self):
        rows = [row for row, _ in some_rows(2, 120, 10)] + random_rows(2, 120, 7, 5)
        rows += [MEETING, ONE, TEN, (7, (0,), ()), (7, (0,) * 10, ((1, ()),) * 9)]
        rng = random.Random(2)
        rows += [random_row(rng, prime, random_towards(rng, 9), (8,) * 10) for prime in support.PRIMES]
        for row in rows:
            found = straightened(row)
            self.assertTrue(support.is_plain(found))
            self.assertEqual([len(table) for table in found], list(row[1]))
            self.assertTrue(is_straight_by_words(row, found))
            self.assertIs(is_straightening(row, found), True)

    def test_told(self):
        rng, seen = random.Random(3), [0, 0]
        for row in [row for row, _ in some_rows(3, 60, 4, 3)] + random_rows(3, 60, 3, 2):
            found = straightened(row)
            others = [tuple(support.random_invertible(rng, row[0], size)[0] for size in row[1]) for _ in range(4)]
            others += [tuple(support.random_table(rng, row[0], size, size) for size in row[1])]
            # With a factor the same at all places it is one as well.
            factor = rng.randrange(1, row[0])
            others += [tuple(tuple(tuple(factor * entry % row[0] for entry in line) for line in table)
                             for table in found)]
            for value in others:
                expected = is_straight_by_words(row, value)
                self.assertIs(is_straightening(row, value), expected)
                seen[expected] += 1
        self.assertGreater(min(seen), 60)

    def test_any_value(self):
        found = straightened(MEETING)
        self.assertTrue(is_straightening(MEETING, found))
        for value in (None, 5, True, "", "abc", (), [], {}, b"abc", list(found), found[:2], found + ((),),
                      found + (found[0],), (found, found, found), (None,) * 3, (1, 2, 3)):
            before = repr(value)
            self.assertIs(is_straightening(MEETING, value), False)
            self.assertEqual(repr(value), before)
        one = found[0]
        for table in (None, (), ((),), ((0,),), ((5,),), ((-1,),), ((True,),), ((1.0,),), ((1, 0),), ((1,), (0,)),
                      ([1],), [(1,)], (1,), 1, "1", ((None,),), (("1",),)):
            self.assertIs(is_straightening(MEETING, (table,) + found[1:]), False)
            self.assertIs(is_straightening(MEETING, found[:2] + (table,)), False)
        self.assertIs(is_straightening(MEETING, (one,) + (((1, 1), (1, 1)),) + found[2:]), False)
        self.assertIs(is_straightening(MEETING, (one,) + (((1, 0), (0, 5)),) + found[2:]), False)
        # Each place has a table; of one place every table that can be turned back will do.
        self.assertIs(is_straightening(ONE, (((1, 1), (0, 2)),)), True)
        self.assertIs(is_straightening(ONE, (((1, 1), (2, 2)),)), False)
        self.assertIs(is_straightening((7, (0,), ()), ((),)), True)
        self.assertIs(is_straightening((7, (0,), ()), (((),),)), False)
        self.assertIs(is_straightening((7, (0,), ()), ()), False)


class StretchMapsTest(unittest.TestCase):

    def test_given(self):
        # Forward alone: a stretch leads to those that begin and end not behind it, and share a place with it.
        self.assertEqual(stretch_maps((1, 1), (1, 2), (0, 1)), 1)
        self.assertEqual(stretch_maps((1, 1), (0, 1), (1, 2)), 0)
        self.assertEqual(stretch_maps((-1, -1), (1, 2), (0, 1)), 0)
        self.assertEqual(stretch_maps((-1, -1), (0, 1), (1, 2)), 1)
        self.assertEqual(stretch_maps((1, 1), (0, 0), (1, 2)), 0)
        self.assertEqual(stretch_maps((1, -1), (0, 2), (1, 1)), 0)
        self.assertEqual(stretch_maps((1, -1), (1, 1), (0, 2)), 1)
        self.assertEqual(stretch_maps((-1, 1), (0, 2), (1, 1)), 1)
        self.assertEqual(stretch_maps((-1, 1), (1, 1), (0, 2)), 0)
        self.assertEqual(stretch_maps((), (0, 0), (0, 0)), 1)

    def test_by_maps(self):
        for places in (1, 2, 3, 4):
            for towards in every_towards(places - 1):
                for one in every_stretch(places):
                    for other in every_stretch(places):
                        pair = [row_patch(straight(3, towards, (stretch + (1,),))) for stretch in (one, other)]
                        self.assertEqual(stretch_maps(towards, one, other), maps_size(*pair), (towards, one, other))

    def test_ten_places(self):
        rng = random.Random(4)
        for k in range(120):
            towards = random_towards(rng, 9)
            one, other = (tuple(sorted(rng.choices(range(10), k=2))) for _ in range(2))
            pair = [row_patch(straight(support.PRIMES[k % 6], towards, (stretch + (1,),))) for stretch in (one, other)]
            self.assertEqual(stretch_maps(towards, one, other), maps_size(*pair))


class SizesTest(unittest.TestCase):

    def test_given(self):
        self.assertEqual(row_maps_size(MEETING, MEETING), 2)
        self.assertEqual(row_ways_size(MEETING, MEETING), 2 - 6 + 4)
        self.assertEqual(row_maps_size(ONE, (3, (3,), ())), 6)
        self.assertEqual(row_ways_size(ONE, (3, (3,), ())), 0)
        lone = (5, (1, 0), ((1, ()),)), (5, (0, 1), ((1, ((),)),))
        self.assertEqual(row_maps_size(*lone), 0)
        self.assertEqual(row_ways_size(*lone), 1)
        self.assertEqual(row_ways_size(lone[1], lone[0]), 0)
        lone = (5, (1, 0), ((-1, ((),)),)), (5, (0, 1), ((-1, ()),))
        self.assertEqual(row_ways_size(*lone), 0)
        self.assertEqual(row_ways_size(lone[1], lone[0]), 1)

    def test_by_patches(self):
        seen = 0
        for one, other in row_pairs(5, 400):
            pair = row_patch(one), row_patch(other)
            if support.refused(map_space, *pair) or support.refused(ways_size, *pair, 0):
                continue
            maps, ways = row_maps_size(one, other), row_ways_size(one, other)
            self.assertEqual(maps, maps_size(*pair))
            self.assertEqual(maps, ways_size(*pair, 0))
            self.assertEqual(ways, ways_size(*pair, 1))
            self.assertFalse(any(ways_sizes(*pair)[2:]))
            seen += maps > 0 and ways > 0
        self.assertGreater(seen, 30)

    def test_by_stretches(self):
        for one, other in row_pairs(6, 60, 10, 6):
            towards = towards_of(one)
            self.assertEqual(row_maps_size(one, other),
                             sum(times * more * stretch_maps(towards, (i, j), (a, b))
                                 for i, j, times in stretches(one) for a, b, more in stretches(other)))

    def test_sums_and_duals(self):
        for one, other in row_pairs(7, 60):
            if max(a + b for a, b in zip(one[1], other[1])) > 8:
                continue
            both = sum_row(one, other)
            for size in (row_maps_size, row_ways_size):
                self.assertEqual(size(both, one), size(one, one) + size(other, one))
                self.assertEqual(size(one, both), size(one, one) + size(one, other))
                self.assertEqual(size(one, other), size(dual_row(other), dual_row(one)))

    def test_beyond_patches(self):
        # Rows of 80 entries in all have no patch, yet their maps are told.
        rng = random.Random(8)
        for prime in support.PRIMES:
            towards = random_towards(rng, 9)
            one, other = (random_row(rng, prime, towards, (8,) * 10) for _ in range(2))
            self.assertEqual(row_maps_size(one, other) - row_ways_size(one, other), 640 - 576)

    def test_refusals(self):
        for size in (row_maps_size, row_ways_size):
            self.assertEqual(support.refused(size, MEETING, (7,) + MEETING[1:]), ("NotFit",))
            self.assertEqual(support.refused(size, MEETING, cut_row(MEETING, 0, 1)), ("NotFit",))
            self.assertEqual(support.refused(size, cut_row(MEETING, 0, 1), MEETING), ("NotFit",))
            self.assertEqual(support.refused(size, MEETING, dual_row(MEETING)), ("NotFit",))
            self.assertIsNone(support.refused(size, MEETING, MEETING))


if __name__ == "__main__":
    unittest.main()
