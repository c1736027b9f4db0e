"""Over the whole program: hole sizes told by all the roads that the document names agree."""

import itertools
import random
import unittest

from patchrooms.counts import near_sizes, springing_counts, standing_counts
from patchrooms.covers import cover_hole_sizes, cover_rank, is_good, least_cover
from patchrooms.cutting import put_in
from patchrooms.desk import Desk
from patchrooms.duals import dual_patch, low_hole_sizes
from patchrooms.facing import facing_patch
from patchrooms.higher import moved_holes_bound
from patchrooms.holes import hole_basis, hole_size, hole_sizes
from patchrooms.leadings import bared, bared_leading, beside_order, last_spots, product_order, rows_order
from patchrooms.maps import maps_size
from patchrooms.moved import back_patch, forward_hole_sizes, forward_patch, gathered_patch, is_tight
from patchrooms.orders import upside_down
from patchrooms.patches import cut_patch, level_patch, lone_patch, size_in_all
from patchrooms.shares import second_sizes
from patchrooms.signed import low_count, whole_size
from patchrooms.stills import sheet_leading, sheets
from patchrooms.straight import row_maps_size, row_ways_size, straight_row
from patchrooms.sums import beside_patch, maps_patch, mixed_patch, outer_patch, sum_patch
from patchrooms.tables import rank
from patchrooms.tellings import tellings
from patchrooms.texts import patch_text, read_patch
from patchrooms.traces import hole_turn, trace
from patchrooms.walks import is_still
from patchrooms.wayrows import row_patch
from patchrooms.ways import signs_between, ways_size, ways_sizes
from patchrooms.webs import border_table
from tests import slow, support
from tests.rows_to_and_fro import some_rows
from tests.test_duals import ROUND
from tests.test_stills import every_kept, pairs_of
from tests.test_webs import places_size, samples, ties_size

POINT = (1, ())
# A crown with a spot that is loose above it, and one of which nothing is left but a spot.
LOOSE = (support.order(6, (0, 2), (0, 3), (1, 2), (1, 3), (2, 4), (3, 5)), support.DIAMOND, slow.MIXED, slow.BROAD,
         support.order(7, (0, 2), (0, 3), (1, 2), (1, 3), (2, 4), (3, 5), (5, 6)))
ORDERS = slow.ORDERS + slow.HOLED + LOOSE


def told(action, *args):
    """What is returned, None for a refusal."""
    try:
        return action(*args)
    except ValueError:
        return None


def patches(seed, count):
    found = slow.patches(seed, count, 4, 2, ORDERS) + slow.made_patches(seed, count, 2, ORDERS)
    return found + [level_patch(support.PRIMES[k % 6], order, 1) for k, order in enumerate(ORDERS)]


class HolesByAllRoadsTest(unittest.TestCase):

    def setUp(self):
        self.patches = patches(1, 60)

    def same(self, found, patch):
        self.assertEqual(slow.trimmed(found), slow.trimmed(hole_sizes(patch)))

    def test_by_words(self):
        kinds = set()
        for patch in self.patches:
            sizes = hole_sizes(patch)
            self.assertEqual(sizes, slow.hole_sizes(patch))
            self.assertEqual(sizes, tuple(hole_size(patch, k) for k in range(len(sizes))))
            self.assertEqual(sizes, tuple(len(hole_basis(patch, k)) for k in range(len(sizes))))
            kinds.add(slow.trimmed(sizes))
        self.assertGreater(len(kinds), 12)

    def test_tellings(self):
        for patch in self.patches:
            if patch[1][0]:
                self.assertEqual(hole_size(patch, 0), len(tellings(patch, tuple(range(patch[1][0])))))
                self.assertEqual(hole_size(patch, 0), maps_size(level_patch(patch[0], patch[1], 1), patch))

    def test_bared(self):
        seen = 0
        for patch in self.patches:
            spots = bared(patch[1])
            self.same(hole_sizes(cut_patch(patch, spots)), patch)
            desk = Desk(patch)
            desk.done(("bare",))
            self.same(hole_sizes(desk.patch), patch)
            # Led to what is left of them, all spots have the columns from which they are led.
            back = told(back_patch, patch, patch[1], bared_leading(patch[1]))
            if back is not None and slow.most_loads(back) <= 160:
                self.same(hole_sizes(back), patch)
            seen += 1 < len(spots) < patch[1][0]
        self.assertGreater(seen, 5)

    def test_ways_from_the_level_patch(self):
        for patch in self.patches:
            self.assertEqual(ways_sizes(level_patch(patch[0], patch[1], 1), patch), hole_sizes(patch))

    def test_least_covers(self):
        good = 0
        for patch in self.patches:
            cover = least_cover(patch[1])
            sizes = cover_hole_sizes(patch, cover)
            self.assertEqual(sizes[:1], hole_sizes(patch)[:1] or (0,))
            if is_good(patch, cover):
                self.same(sizes, patch)
                self.same([cover_rank(patch, cover, k) for k in range(len(sizes))], patch)
                good += any(sizes[1:])
            second = second_sizes(patch, cover)
            total = sum((-1) ** (j + k) * size for j, line in enumerate(second) for k, size in enumerate(line))
            self.assertEqual(total, slow.signed(hole_sizes(patch)))
        self.assertGreater(good, 10)

    def test_moved_forward(self):
        rng, seen = random.Random(2), 0
        ways = [(patch,) + slow.leading_on(rng, patch[1]) for patch in self.patches]
        ways += [(patch, patch[1], bared_leading(patch[1])) for patch in self.patches]
        for patch, other, led in ways:
            moved = told(forward_patch, patch, other, led)
            if moved is None or slow.most_loads(moved) > 160:
                continue
            above = forward_hole_sizes(patch, other, led)
            if not any(any(line[1:]) for line in above):
                self.same(hole_sizes(moved), patch)
                seen += any(hole_sizes(moved)[1:])
            bound = told(moved_holes_bound, patch, other, led)
            if bound is not None:
                self.assertTrue(all(a <= b for a, b in zip(hole_sizes(patch), bound)))
        self.assertGreater(seen, 5)

    def test_low_loads_of_the_dual(self):
        for patch in self.patches:
            self.assertEqual(low_hole_sizes(dual_patch(patch)), hole_sizes(patch))
            gathered = told(gathered_patch, dual_patch(patch), POINT, (0,) * patch[1][0])
            if gathered is not None and patch[1][0]:
                self.assertEqual(gathered[2], hole_sizes(patch)[:1])

    def test_rows_moved_back_along_last_spots(self):
        seen = 0
        for patch in self.patches:
            order = told(rows_order, patch[1])
            back = order and told(back_patch, patch, order, last_spots(patch[1]))
            if back and slow.most_loads(back) <= 160:
                self.assertTrue(is_tight(patch[0], order, patch[1], last_spots(patch[1])))
                self.same(hole_sizes(back), patch)
                seen += any(hole_sizes(patch)[1:])
        self.assertGreater(seen, 10)

    def test_texts(self):
        for patch in self.patches:
            self.assertEqual(hole_sizes(read_patch(patch_text(patch))), hole_sizes(patch))

    def test_sums(self):
        rng = random.Random(3)
        for patch in self.patches:
            other = slow.made_patch(rng, patch[0], patch[1], 1)
            both = told(sum_patch, patch, other)
            if both is not None and slow.most_loads(both) <= 160:
                expected = tuple(a + b for a, b in zip(hole_sizes(patch), hole_sizes(other)))
                self.assertEqual(hole_sizes(both), expected)
                self.assertEqual(Desk(patch).trial((("sum", other),)), both)
            beside = told(beside_patch, patch, other)
            if beside is not None and slow.most_loads(beside) <= 160:
                self.assertEqual(beside[1], beside_order(patch[1], other[1]))
                self.assertEqual(hole_sizes(beside), tuple(a + b for a, b in zip(hole_sizes(patch),
                                                                                 hole_sizes(other))))

    def test_products_with_a_chain(self):
        seen = 0
        for patch in self.patches:
            level = level_patch(patch[0], support.chain(2), 1)
            for outer in (told(outer_patch, patch, level), told(outer_patch, level, patch)):
                if outer is not None and slow.most_loads(outer) <= 160:
                    self.same(hole_sizes(outer), patch)
                    seen += any(hole_sizes(patch)[1:])
            mixed = mixed_patch(patch, level_patch(patch[0], patch[1], 1))
            self.assertEqual(mixed, patch)
        self.assertGreater(seen, 10)

    def test_maps_from_the_level_patch(self):
        for patch in self.patches:
            maps = told(maps_patch, level_patch(patch[0], patch[1], 1), patch)
            if maps is not None:
                self.assertEqual(hole_sizes(maps), hole_sizes(patch))

    def test_counts(self):
        for patch in self.patches:
            lines, order = told(standing_counts, patch), patch[1]
            signs = slow.signed(hole_sizes(patch))
            self.assertEqual(whole_size(order, patch[2]), signs)
            self.assertEqual(sum(low_count(upside_down(order), patch[2])), signs)
            self.assertEqual(sum(slow.signed(near_sizes(patch, x)) for x in range(order[0])), signs)
            if lines is not None:
                self.assertEqual(slow.signed([sum(line) for line in lines]), signs)
                self.assertTrue(all(size <= sum(line) for size, line in zip(hole_sizes(patch), lines)))
                for x in range(order[0]):
                    lone = lone_patch(patch[0], order, x)
                    self.assertEqual(ways_sizes(lone, patch), tuple(line[x] for line in lines))
                    if not support.refused(springing_counts, patch) and not support.refused(ways_sizes, patch, lone):
                        self.assertEqual(ways_sizes(patch, lone),
                                         tuple(line[x] for line in springing_counts(patch)))

    def test_put_in_a_greater_order(self):
        rng = random.Random(4)
        for patch in self.patches:
            n, pairs = patch[1]
            # A spot above some of the spots and all below these: the old ones are a down set.
            some = [x for x in range(n) if rng.random() < 0.5]
            order = (n + 1, support.closed(n + 1, pairs + tuple((x, n) for x in some)))
            more = put_in(patch, order, tuple(range(n)))
            if slow.most_loads(more) <= 160:
                self.same(hole_sizes(more), patch)

    def test_turned_by_what_changes_nothing(self):
        for patch in self.patches:
            order, still = patch[1], tuple(support.identity(size) for size in patch[2])
            traces = [trace(patch[0], hole_turn(patch, tuple(range(order[0])), still, k))
                      for k in range(slow.height(order) + 1)]
            self.assertEqual(traces, [size % patch[0] for size in hole_sizes(patch)])

    def test_a_row_of_deeds(self):
        for patch in self.patches:
            desk = Desk(patch, most=2)
            deeds = (("dual",), ("dual",), ("bare",), ("mixed", level_patch(*cut_patch(patch, bared(patch[1]))[:2], 1)))
            for deed in deeds:
                desk.done(deed)
            self.assertEqual(desk.patch, Desk(patch).trial(deeds))
            self.assertEqual(desk.count(), 2)
            self.same(hole_sizes(desk.patch), patch)


class OtherRoadsTest(unittest.TestCase):

    def test_webs(self):
        seen = 0
        for patch, web, _, _ in samples(5, 60, 3, 3):
            if slow.most_loads(patch) <= 160:
                lost = rank(patch[0], border_table(patch))
                expected = (places_size(patch, web) - lost, ties_size(patch, web) - lost)
                self.assertEqual(slow.trimmed(hole_sizes(patch)), slow.trimmed(expected))
                self.assertEqual(slow.signed(hole_sizes(patch)), whole_size(patch[1], patch[2]))
                seen += expected[1] > 0
        self.assertGreater(seen, 15)

    def test_round_orders(self):
        rng = random.Random(6)
        for k, (order, d) in enumerate(ROUND):
            prime = support.PRIMES[k % 6]
            patch = slow.made_patch(rng, prime, order, 1)
            if slow.most_loads(patch) <= 160:
                face = facing_patch(prime, order, d)
                self.assertTrue(is_still(face))
                self.assertEqual(hole_sizes(patch), tuple(ways_size(patch, face, d - k) for k in range(d + 1)))

    def test_way_rows(self):
        for row, lot in some_rows(7, 80, 6, 3):
            if sum(row[1]) <= 40 and slow.most_loads(row_patch(row)) <= 160:
                patch = row_patch(row)
                towards = tuple(toward for toward, _ in row[2])
                straight = row_patch(straight_row(row[0], towards, lot))
                self.assertEqual(hole_sizes(patch), hole_sizes(straight))
                level = straight_row(row[0], towards, ((0, len(row[1]) - 1, 1),))
                self.assertEqual(row_patch(level), level_patch(row[0], patch[1], 1))
                found = row_maps_size(level, row), row_ways_size(level, row)
                self.assertEqual(slow.trimmed(hole_sizes(patch)), slow.trimmed(found))

    def test_sheets(self):
        rng = random.Random(8)
        for order in (support.CROWN, support.HEXAGON, support.order(5, (0, 2), (0, 3), (1, 2), (1, 3), (2, 4))):
            for n in (2, 3):
                if n * order[0] <= 16 and 6 ** pairs_of(order) <= 3000:
                    over = sheets(order, n, rng.choice(every_kept(order, n)))
                    for prime in support.PRIMES:
                        patch = slow.made_patch(rng, prime, over, 1)
                        moved = told(forward_patch, patch, order, sheet_leading(order, n))
                        if moved is not None and slow.most_loads(moved) <= 160:
                            self.assertEqual(slow.trimmed(hole_sizes(moved)), slow.trimmed(hole_sizes(patch)))

    def test_products(self):
        rng = random.Random(9)
        for k in range(40):
            prime = support.PRIMES[k % 6]
            one = slow.made_patch(rng, prime, rng.choice((support.CROWN, support.VEE, support.ROOF)), 1)
            other = slow.made_patch(rng, prime, rng.choice((support.CROWN, support.chain(2), support.antichain(2))), 1)
            outer = told(outer_patch, one, other)
            if outer is not None and slow.most_loads(outer) <= 160:
                self.assertEqual(outer[1], product_order(one[1], other[1]))
                firsts, seconds = hole_sizes(one), hole_sizes(other)
                expected = [0] * (len(firsts) + len(seconds))
                for (i, a), (j, b) in itertools.product(enumerate(firsts), enumerate(seconds)):
                    expected[i + j] += a * b
                self.assertEqual(slow.trimmed(hole_sizes(outer)), slow.trimmed(expected))

    def test_ways_with_signs(self):
        for one, other in slow.made_pairs(10, 40, 2):
            sizes = told(ways_sizes, one, other)
            if sizes is not None:
                signs = signs_between(one[1])
                n = one[1][0]
                self.assertEqual(slow.signed(sizes), sum(one[2][x] * other[2][y] * signs[x][y]
                                                         for x in range(n) for y in range(n)))

    def test_size_in_all_of_what_is_put_together(self):
        for patch in patches(11, 20):
            self.assertEqual(size_in_all(patch), size_in_all(dual_patch(patch)))
            self.assertEqual(size_in_all(read_patch(patch_text(patch))), sum(patch[2]))


if __name__ == "__main__":
    unittest.main()
