"""[47], [48]: way rows, their stretches and their patches."""

import random
import unittest

from patchrooms.duals import dual_patch
from patchrooms.holes import hole_sizes
from patchrooms.orders import part_order
from patchrooms.patches import cut_patch, need_patch
from patchrooms.splits import unsplit_sizes
from patchrooms.sums import sum_patch
from patchrooms.wayrows import (cut_row, dual_row, need_way_row, row_patch, stretches, sum_row, through_rank)
from tests import slow, support
from tests.rows_to_and_fro import (ends, random_lot, random_row, random_rows, random_towards, row_pairs, sizes_of,
                                   some_rows, straight, stretches_by_words, through_by_words, towards_of, turned)

# Over 5, of the sizes 1, 2, 1: to the place 1 from both sides.
MEETING = (5, (1, 2, 1), ((1, ((1,), (2,))), (-1, ((3,), (2,)))))
ONE = (3, (2,), ())
TEN = (2, (1,) * 10, ((1, ((1,),)), (-1, ((1,),))) * 4 + ((1, ((0,),)),))


class Same:
    """Says that it is what it is compared with."""

    def __eq__(self, other):
        return True

    def __hash__(self):
        return 1


class NeedTest(unittest.TestCase):

    def test_rows(self):
        eights = random_row(random.Random(1), 13, (1, -1), (8, 0, 8))
        for row in (MEETING, ONE, TEN, eights, (7, (0,), ()), (2, (0,) * 10, ((1, ()),) * 9),
                    (11, (3, 0), ((1, ()),)), (11, (3, 0), ((-1, ((), (), ())),))):
            self.assertIs(need_way_row(row), row)
        for row, _ in some_rows(1, 60):
            self.assertEqual(need_way_row(row), row)

    def wrong(self, value, place):
        before = repr(value)
        self.assertEqual(support.refused(need_way_row, value), ("NotRow", place))
        self.assertEqual(repr(value), before)

    def test_no_such_tuple(self):
        prime, sizes, ways = MEETING
        for value in (None, 5, "row", [], (), {}, MEETING[:2], MEETING + ((),), list(MEETING), b"row"):
            self.wrong(value, -1)
        for other in (1, 4, 17, -2, 0, True, None, "5", (5,), 5.0):
            self.wrong((other, sizes, ways), -1)
        for other in ((1, 2), (1, 2, 1, 1), [1, 2, 1], (1, 9, 1), (1, -1, 1), (True, 2, 1), (1, 2, True), (1, 2, None),
                      (), None, 3, "121", (1, 2, "1"), (1, 2.0, 1)):
            self.wrong((prime, other, ways), -1)
        for other in (ways[:1], ways + ways[:1], list(ways), (), None, 2, "ab", {0: 1, 1: 2}):
            self.wrong((prime, sizes, other), -1)
        # None at all, and more than ten places.
        self.wrong((5, (), ()), -1)
        self.wrong((5, (1,) * 11, ((1, ((1,),)),) * 10), -1)
        self.wrong((5, (), ((),)), -1)
        self.wrong((5, (1,), ((1, ((1,),)),)), -1)

    def test_single_ways(self):
        prime, sizes, ways = MEETING
        table = ways[0][1]
        for other in (None, (), (1,), (1, table, 1), [1, table], (0, table), (2, table), (-1, table), (True, table),
                      ("1", table), (1.0, table), (1, None), (1, ((1,),)), (1, ((1,), (2,), (3,))), (1, ((1, 0), (2, 0))),
                      (1, ((1,), (5,))), (1, ((1,), (-1,))), (1, ((True,), (2,))), (1, [(1,), (2,)]),
                      (1, ((1,), [2])), (1, ((1,), (None,))), (1, ((1, 2),)), (Same(), table), 7, "ab"):
            self.wrong((prime, sizes, (other, ways[1])), 0)
            self.wrong((prime, sizes, (other, other)), 0)
        # The second way leads from the place 2 to the place 1.
        for other in ((1, ways[1][1]), (-1, ((3, 1),)), (-1, ((3,),)), (False, ways[1][1]), None, (-1, ()),
                      (-1, ((3,), (9,)))):
            self.wrong((prime, sizes, (ways[0], other)), 1)
        self.wrong((prime, (1, 2, 0), ways), 1)
        self.wrong((2, sizes, ways), 0)
        self.wrong((3, sizes, (ways[0], (-1, ((2,), (3,))))), 1)

    def test_towards(self):
        # A table that fits both ways, so that the direction alone is wrong.
        for toward in (0, 2, -2, 3, True, False, None, "1", 1.0, -1.0, (1,)):
            self.wrong((5, (1, 1, 1), ((-1, ((2,),)), (toward, ((2,),)))), 1)
            self.wrong((5, (0, 0), ((toward, ()),)), 0)

    def test_two_at_once(self):
        prime, sizes, ways = MEETING
        self.wrong((4, (1, 9, 1), ways), -1)
        self.wrong((4, sizes, (None, ways[1])), -1)
        self.wrong((prime, (1, 9, 1), (None, ways[1])), -1)
        self.wrong((prime, sizes, (ways[0], None, None)), -1)
        self.wrong((prime, sizes, [None, None]), -1)


class ThroughTest(unittest.TestCase):

    def test_given(self):
        self.assertEqual(through_rank(MEETING, 0, 0), 1)
        self.assertEqual(through_rank(MEETING, 1, 1), 2)
        self.assertEqual(through_rank(MEETING, 0, 1), 1)
        self.assertEqual(through_rank(MEETING, 0, 2), 0)
        # Both lead to one column.
        self.assertEqual(through_rank((5, (1, 2, 1), ((1, ((1,), (2,))), (-1, ((3,), (2,))))), 0, 2), 0)
        self.assertEqual(through_rank((5, (1, 2, 1), ((1, ((1,), (2,))), (-1, ((2,), (4,))))), 0, 2), 1)
        self.assertEqual(through_rank(ONE, 0, 0), 2)
        self.assertEqual(through_rank(TEN, 0, 8), 1)
        self.assertEqual(through_rank(TEN, 0, 9), 0)
        # Away from the place 1, to both sides: what is lost on one side alone is of no use.
        apart = (3, (1, 2, 1), ((-1, ((1, 0),)), (1, ((0, 1),))))
        self.assertEqual(through_rank(apart, 0, 2), 0)
        self.assertEqual(through_rank((3, (1, 2, 1), ((-1, ((1, 0),)), (1, ((1, 1),)))), 0, 2), 0)
        self.assertEqual(through_rank((3, (1, 2, 1), ((-1, ((1, 1),)), (1, ((2, 2),)))), 0, 2), 1)

    def test_by_words(self):
        seen = 0
        for row in random_rows(2, 80) + [row for row, _ in some_rows(2, 80, 5)]:
            for i in range(len(row[1])):
                for j in range(i, len(row[1])):
                    found = through_rank(row, i, j)
                    self.assertEqual(found, through_by_words(row, i, j))
                    seen += found > 0 and j > i + 1
        self.assertGreater(seen, 60)

    def test_of_the_stretches(self):
        for row, lot in some_rows(3, 60, 10):
            for i in range(len(row[1])):
                for j in range(i, len(row[1])):
                    self.assertEqual(through_rank(row, i, j),
                                     sum(times for low, high, times in lot if low <= i and j <= high))

    def test_all_forward(self):
        rng = random.Random(4)
        for k in range(40):
            prime, places = support.PRIMES[k % 6], rng.randint(1, 6)
            row = random_row(rng, prime, (1,) * (places - 1), [rng.randint(1, 4) for _ in range(places)])
            for i in range(places):
                table = support.identity(row[1][i])
                for j in range(i, places):
                    self.assertEqual(through_rank(row, i, j), support.rank_of(prime, table))
                    if j + 1 < places:
                        table = support.matrix_times(prime, table, row[2][j][1], row[1][i])


class StretchesTest(unittest.TestCase):

    def test_given(self):
        self.assertEqual(stretches(MEETING), ((0, 1, 1), (1, 2, 1)))
        self.assertEqual(stretches(ONE), ((0, 0, 2),))
        self.assertEqual(stretches((3, (0,), ())), ())
        self.assertEqual(stretches(TEN), ((0, 8, 1), (9, 9, 1)))
        self.assertEqual(stretches((7, (0,) * 10, ((1, ()),) * 9)), ())
        self.assertEqual(stretches((7, (8, 8), ((-1, support.identity(8)),))), ((0, 1, 8),))
        self.assertEqual(stretches((7, (8, 8), ((-1, support.zero_table(8, 8)),))), ((0, 0, 8), (1, 1, 8)))

    def test_what_it_was_made_of(self):
        for row, lot in some_rows(5, 150, 7):
            found = stretches(row)
            self.assertTrue(support.is_plain(found))
            self.assertEqual(found, lot)

    def test_ten_places(self):
        rng = random.Random(6)
        for k in range(24):
            lot = random_lot(rng, 10, 6)
            if max(sizes_of(lot, 10)) <= 8:
                self.assertEqual(stretches(turned(rng, straight(support.PRIMES[k % 6], random_towards(rng, 9), lot))),
                                 lot)
        for k, prime in enumerate(support.PRIMES):
            row = random_row(rng, prime, random_towards(rng, 9), (8,) * 10)
            self.assertEqual(sizes_of(stretches(row), 10), (8,) * 10)

    def test_by_ranks(self):
        for row in random_rows(7, 80):
            self.assertEqual(stretches(row), stretches_by_words(row))

    def test_times_from_ranks(self):
        for row in random_rows(8, 40, 6):
            last = len(row[1]) - 1
            told = {(i, j): times for i, j, times in stretches(row)}

            def rank(i, j):
                return through_rank(row, i, j) if 0 <= i and j <= last else 0

            for i in range(last + 1):
                for j in range(i, last + 1):
                    self.assertEqual(told.get((i, j), 0), rank(i, j) - rank(i - 1, j) - rank(i, j + 1)
                                     + rank(i - 1, j + 1))


def leads_out(towards, i, j):
    """At each end: 1 where the way leads out of the stretch, -1 where it leads in, None where there is none."""
    first = None if i == 0 else (1 if towards[i - 1] == -1 else -1)
    last = None if j == len(towards) else (1 if towards[j] == 1 else -1)
    return first, last


class PatchTest(unittest.TestCase):

    def test_given(self):
        self.assertEqual(row_patch(MEETING), (5, support.ROOF[:1] + (((0, 1), (2, 1)),), (1, 2, 1),
                                              (((1,), (2,)), ((3,), (2,)))))
        self.assertEqual(row_patch(ONE), (3, (1, ()), (2,), ()))
        chain = (7, (1, 2, 1), ((1, ((1,), (2,))), (1, ((3, 4),))))
        self.assertEqual(row_patch(chain), (7, support.chain(3), (1, 2, 1), (((1,), (2,)), ((4,),), ((3, 4),))))
        chain = (7, (1, 2, 1), ((-1, ((1, 2),)), (-1, ((3,), (4,)))))
        self.assertEqual(row_patch(chain), (7, (3, ((1, 0), (2, 0), (2, 1))), (1, 2, 1),
                                            (((1, 2),), ((4,),), ((3,), (4,)))))

    def by_words(self, row):
        prime, sizes, ways = row
        pairs = [ends(toward, place) for place, toward in enumerate(towards_of(row))]
        order = (len(sizes), support.closed(len(sizes), pairs))
        tables = []
        for x, y in order[1]:
            table = support.identity(sizes[x])
            while x != y:
                step = x + 1 if x < y else x - 1
                table = support.matrix_times(prime, table, ways[min(x, step)][1], sizes[order[1][len(tables)][0]])
                x = step
            tables.append(table)
        return prime, order, sizes, tuple(tables)

    def test_by_words(self):
        for row in random_rows(9, 60, 7) + [row for row, _ in some_rows(9, 60, 10)]:
            if sum(row[1]) <= 40:
                found = row_patch(row)
                self.assertTrue(support.is_plain(found))
                self.assertEqual(need_patch(found), found)
                self.assertEqual(found, self.by_words(row))

    def test_bound(self):
        rng = random.Random(10)
        for sizes, limit in (((8, 8, 8, 8, 8), None), ((8, 8, 8, 8, 8, 0), None), ((8, 8, 8, 8, 8, 1), 40),
                             ((8,) * 10, 40), ((4,) * 10, None), ((4,) * 9 + (5,), 40)):
            row = random_row(rng, 3, random_towards(rng, len(sizes) - 1), sizes)
            self.assertEqual(support.refused(row_patch, row), limit and ("TooMany", limit))

    def test_unsplit_sizes(self):
        seen = 0
        for row in random_rows(11, 60, 4, 2) + [row for row, _ in some_rows(11, 120, 5, 3)]:
            if sum(row[1]) > 40 or support.refused(unsplit_sizes, row_patch(row)):
                continue
            expected = []
            for i, j, times in stretches(row):
                expected += [tuple(int(i <= place <= j) for place in range(len(row[1])))] * times
            self.assertEqual(unsplit_sizes(row_patch(row)), tuple(sorted(expected)))
            seen += len(expected) > 1
        self.assertGreater(seen, 30)

    def test_hole_sizes(self):
        kinds = set()
        for row in random_rows(12, 80, 6) + [row for row, _ in some_rows(12, 120, 10)]:
            if sum(row[1]) > 40 or slow.most_loads(self.by_words(row)) > 160:
                continue
            holes = [0, 0]
            for i, j, times in stretches(row):
                both = leads_out(towards_of(row), i, j)
                holes[0] += times if all(way != -1 for way in both) else 0
                holes[1] += times if both == (-1, -1) else 0
            found = hole_sizes(row_patch(row)) + (0,)
            self.assertEqual(list(found[:2]), holes)
            self.assertFalse(any(found[2:]))
            kinds.add(found[:2])
        self.assertGreater(len(kinds), 8)
        self.assertTrue(any(sizes[1] > 1 for sizes in kinds))


class SumTest(unittest.TestCase):

    def test_given(self):
        other = (5, (1, 0, 1), ((1, ()), (-1, ())))
        self.assertEqual(sum_row(MEETING, other), (5, (2, 2, 2), ((1, ((1, 0), (2, 0))), (-1, ((3, 0), (2, 0))))))
        self.assertEqual(sum_row(other, MEETING), (5, (2, 2, 2), ((1, ((0, 1), (0, 2))), (-1, ((0, 3), (0, 2))))))
        self.assertEqual(sum_row(ONE, (3, (6,), ())), (3, (8,), ()))
        back = (5, (1, 2), ((-1, ((3, 4),)),))
        self.assertEqual(sum_row(back, (5, (1, 1), ((-1, ((2,),)),))), (5, (2, 3), ((-1, ((3, 4, 0), (0, 0, 2))),)))

    def test_by_words(self):
        for one, other in row_pairs(13, 80):
            found = sum_row(one, other)
            self.assertTrue(support.is_plain(found))
            self.assertEqual(need_way_row(found), found)
            both = {}
            for i, j, times in stretches(one) + stretches(other):
                both[i, j] = both.get((i, j), 0) + times
            self.assertEqual(stretches(found), tuple((i, j, both[i, j]) for i, j in sorted(both)))
            if sum(found[1]) <= 40:
                self.assertEqual(row_patch(found), sum_patch(row_patch(one), row_patch(other)))

    def test_refusals(self):
        self.assertEqual(support.refused(sum_row, MEETING, (7,) + MEETING[1:]), ("NotFit",))
        self.assertEqual(support.refused(sum_row, MEETING, cut_row(MEETING, 0, 1)), ("NotFit",))
        self.assertEqual(support.refused(sum_row, cut_row(MEETING, 0, 1), MEETING), ("NotFit",))
        self.assertEqual(support.refused(sum_row, MEETING, dual_row(MEETING)), ("NotFit",))
        self.assertEqual(support.refused(sum_row, ONE, (5, (2,), ())), ("NotFit",))
        self.assertEqual(support.refused(sum_row, ONE, (3, (2, 0), ((1, ()),))), ("NotFit",))
        self.assertEqual(support.refused(sum_row, ONE, (3, (7,), ())), ("TooMany", 8))
        self.assertIsNone(support.refused(sum_row, ONE, (3, (6,), ())))
        # 80 in all is not too many.
        rng = random.Random(14)
        towards = random_towards(rng, 9)
        fours = random_row(rng, 3, towards, (4,) * 10)
        self.assertEqual(sum_row(fours, fours)[1], (8,) * 10)
        more = random_row(rng, 3, towards, (4,) * 9 + (5,))
        self.assertEqual(support.refused(sum_row, fours, more), ("TooMany", 8))
        self.assertEqual(support.refused(sum_row, more, (5,) + more[1:]), ("NotFit",))


class DualAndCutTest(unittest.TestCase):

    def test_given(self):
        self.assertEqual(dual_row(MEETING), (5, (1, 2, 1), ((-1, ((1, 2),)), (1, ((3, 2),)))))
        self.assertEqual(dual_row(ONE), ONE)
        self.assertEqual(dual_row((3, (2, 0), ((1, ()),))), (3, (2, 0), ((-1, ((), ())),)))
        self.assertEqual(dual_row((3, (2, 0), ((-1, ((), ())),))), (3, (2, 0), ((1, ()),)))
        self.assertEqual(cut_row(MEETING, 0, 1), (5, (1, 2), MEETING[2][:1]))
        self.assertEqual(cut_row(MEETING, 1, 2), (5, (2, 1), MEETING[2][1:]))
        self.assertEqual(cut_row(MEETING, 1, 1), (5, (2,), ()))
        self.assertEqual(cut_row(MEETING, 0, 2), MEETING)

    def test_duals(self):
        for row in random_rows(15, 60) + [row for row, _ in some_rows(15, 60)]:
            found = dual_row(row)
            self.assertTrue(support.is_plain(found))
            self.assertEqual(need_way_row(found), found)
            self.assertEqual(towards_of(found), tuple(-toward for toward in towards_of(row)))
            self.assertEqual(dual_row(found), row)
            self.assertEqual(stretches(found), stretches(row))
            if sum(row[1]) <= 40:
                self.assertEqual(row_patch(found), dual_patch(row_patch(row)))

    def test_cuts(self):
        for row in random_rows(16, 30, 6) + [row for row, _ in some_rows(16, 30, 10)]:
            for i in range(len(row[1])):
                for j in range(i, len(row[1])):
                    found = cut_row(row, i, j)
                    self.assertTrue(support.is_plain(found))
                    self.assertEqual(need_way_row(found), found)
                    cut = {}
                    for low, high, times in stretches(row):
                        if low <= j and high >= i:
                            ends_there = max(low, i) - i, min(high, j) - i
                            cut[ends_there] = cut.get(ends_there, 0) + times
                    self.assertEqual(stretches(found), tuple((a, b, cut[a, b]) for a, b in sorted(cut)))
                    if sum(row[1]) <= 40:
                        patch = row_patch(row)
                        spots = tuple(range(i, j + 1))
                        self.assertEqual(row_patch(found), cut_patch(patch, spots))
                        self.assertEqual(row_patch(found)[1], part_order(patch[1], spots))


if __name__ == "__main__":
    unittest.main()
