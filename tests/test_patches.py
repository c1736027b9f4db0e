"""[9], [10]: patches and what is wrong with other values."""

import random
import unittest

from patchrooms.orders import down_of, part_order, up_of
from patchrooms.patches import (cut_patch, lead, level_patch, lone_patch, need_patch, patch_breach, size_in_all,
                                springing, standing)
from tests import support

ONE = ((1,),)
# 0 below 1 below 2, numbers over 5; the third table is the first one and then the second one.
LINE = (5, (3, ((0, 1), (0, 2), (1, 2))), (1, 2, 1), (((2,), (3,)), ((1,),), ((1, 3),)))


def put(value, place, part):
    return value[:place] + (part,) + value[place + 1:]


class BreachTest(unittest.TestCase):

    def check(self, value, rule, place):
        self.assertEqual(patch_breach(value), (rule, place), value)
        self.assertEqual(support.refused(need_patch, value), ("NotPatch", rule, place), value)

    def test_patches(self):
        given = [LINE, (2, (0, ()), (), ()), (13, (2, ()), (8, 0), ()), (3, (2, ((1, 0),)), (0, 2), ((),)),
                 (3, (2, ((0, 1),)), (0, 2), (((), ()),)), (7, (1, ()), (8,), ()),
                 (11, (5, ()), (8,) * 5, ()), (2, (16, ()), (3, 2) * 8, ())]
        for value in given + support.patches(1, 120):
            self.assertIsNone(patch_breach(value), value)
            self.assertIs(need_patch(value), value)

    def test_form(self):
        for value in (None, 5, "patch", (), LINE[:3], LINE + (1,), list(LINE), dict(enumerate(LINE))):
            self.check(value, "form", -1)

    def test_prime(self):
        for prime in (0, 1, 4, 6, 8, 9, 10, 12, 14, 15, 17, -2, -3, True, False, None, 2.0, 5.0, "5", (5,), [5]):
            self.check(put(LINE, 0, prime), "prime", -1)
        for prime in support.PRIMES:
            self.assertIsNone(patch_breach((prime, (1, ()), (1,), ())))

    def test_order(self):
        for order in (None, (), (17, ()), [3, ()], (3, []), (True, ()), (3, ((0, 1), (1, 2))),
                      (3, ((1, 2), (0, 1))), (2, ((0, 1), (1, 0))), (3, ((0, 3),)), (3, ((0, True),))):
            self.check(put(LINE, 1, order), "order", -1)

    def test_sizes(self):
        for sizes in (None, 1, (), (1, 2), (1, 2, 1, 0), [1, 2, 1], {0: 1, 1: 2, 2: 1}, (1, 2, 9), (1, -1, 1),
                      (1, 2, True), (False, 2, 1), (1, 2.0, 1), (1, None, 1), "121", ((1,), 2, 1)):
            self.check(put(LINE, 2, sizes), "sizes", -1)

    def test_sizes_of_just_40_and_more(self):
        self.assertIsNone(patch_breach((2, (6, ()), (8, 8, 8, 8, 7, 1), ())))
        self.check((2, (6, ()), (8, 8, 8, 8, 7, 2), ()), "sizes", -1)
        self.check((2, (6, ()), (8,) * 6, ()), "sizes", -1)
        self.check((2, (1, ()), (9,), ()), "sizes", -1)

    def test_table(self):
        tables = LINE[3]
        for wrong in (None, (), tables[:2], tables + (ONE,), list(tables), dict(enumerate(tables)), "abc", 3):
            self.check(put(LINE, 3, wrong), "table", -1)
        for wrong in (None, (), ((2,),), ((2,), (3,), (1,)), ((2, 0), (3, 0)), ((), ()), [(2,), (3,)], ([2], (3,)),
                      {0: (2,), 1: (3,)}, ((2,), (5,)), ((2,), (-1,)), ((2,), (True,)), ((False,), (3,)),
                      ((2,), (3.0,)), ((2,), ("3",)), ((2,), (None,)), ((2,), 3), 23):
            self.check(put(LINE, 3, put(tables, 0, wrong)), "table", 0)
        self.check(put(LINE, 3, put(tables, 1, ((5,),))), "table", 1)
        self.check(put(LINE, 3, put(tables, 2, ((1,), (3,)))), "table", 2)
        self.check(put(LINE, 3, (tables[0], None, None)), "table", 1)

    def test_tables_without_lines_or_entries(self):
        below = (3, (2, ((0, 1),)))
        self.assertIsNone(patch_breach(below + ((2, 0), ((),))))
        self.assertIsNone(patch_breach(below + ((0, 2), (((), ()),))))
        self.assertIsNone(patch_breach(below + ((0, 0), ((),))))
        self.check(below + ((2, 0), (((), ()),)), "table", 0)
        self.check(below + ((0, 2), ((),)), "table", 0)
        self.check(below + ((0, 0), (((),),)), "table", 0)
        self.check(below + ((0, 2), ((0, 0),)), "table", 0)

    def test_ways(self):
        tables = LINE[3]
        self.check(put(LINE, 3, put(tables, 1, ((2,),))), "ways", 1)
        self.check(put(LINE, 3, put(tables, 0, ((2,), (2,)))), "ways", 1)
        self.check(put(LINE, 3, put(tables, 2, ((1, 2),))), "ways", 1)
        four = support.chain(4)
        ones = (ONE,) * 6
        self.assertIsNone(patch_breach((3, four, (1,) * 4, ones)))
        # Pairs in sequence: (0, 1), (0, 2), (0, 3), (1, 2), (1, 3), (2, 3).
        for place, first in ((0, 1), (1, 1), (2, 2), (3, 1), (4, 2), (5, 2)):
            self.check((3, four, (1,) * 4, put(ones, place, ((2,),))), "ways", first)
        # One road of the diamond is right, the other one is not.
        diamond = support.DIAMOND
        self.assertEqual(diamond[1], ((0, 1), (0, 2), (0, 3), (1, 3), (2, 3)))
        self.check((3, diamond, (1,) * 4, (ONE, ONE, ONE, ONE, ((2,),))), "ways", 2)
        self.check((3, diamond, (1,) * 4, (ONE, ONE, ONE, ((2,),), ONE)), "ways", 2)
        # By a spot of the size 0 all is led to zeros.
        self.check((3, support.chain(3), (1, 0, 1), ((), ((1,),), ((),))), "ways", 1)
        self.assertIsNone(patch_breach((3, support.chain(3), (1, 0, 1), ((), ((0,),), ((),)))))

    def test_first_broken_rule(self):
        self.check((4, None, None, None), "prime", -1)
        self.check((5, None, None, None), "order", -1)
        self.check((5, support.chain(3), None, None), "sizes", -1)
        self.check((5, support.chain(3), (1, 2, 1), None), "table", -1)
        self.check(put(LINE, 3, (((2,), (2,)), ((1,),), ((1, 5),))), "table", 2)
        self.check((4, LINE[1], LINE[2]), "form", -1)
        self.check((True, (3, ()), (1, 1), ()), "prime", -1)

    def test_one_entry_put_otherwise(self):
        rng = random.Random(2)
        seen = 0
        for patch in support.patches(3, 150):
            if any(any(table) for table in patch[3]):
                place = rng.choice([k for k, table in enumerate(patch[3]) if any(table)])
                table = [list(line) for line in patch[3][place]]
                table[0][0] = (table[0][0] + 1) % patch[0]
                value = put(patch, 3, put(patch[3], place, tuple(map(tuple, table))))
                expected = self.first_wrong_way(value)
                seen += expected is not None
                self.assertEqual(patch_breach(value), None if expected is None else ("ways", expected))
        self.assertGreater(seen, 10)

    def first_wrong_way(self, value):
        prime, order, sizes, tables = value
        for place, (x, z) in enumerate(order[1]):
            for y in range(order[0]):
                if (x, y) in order[1] and (y, z) in order[1]:
                    first, second = support.lead_table(value, x, y), support.lead_table(value, y, z)
                    if support.matrix_times(prime, first, second, sizes[x]) != tables[place]:
                        return place
        return None


class MadePatchesTest(unittest.TestCase):

    def test_level(self):
        self.assertEqual(level_patch(3, support.VEE, 1), (3, support.VEE, (1, 1, 1), (ONE, ONE)))
        self.assertEqual(level_patch(3, (2, ((1, 0),)), 2), (3, (2, ((1, 0),)), (2, 2), (((1, 0), (0, 1)),)))
        self.assertEqual(level_patch(3, support.VEE, 0), (3, support.VEE, (0, 0, 0), ((), ())))
        self.assertEqual(level_patch(13, (0, ()), 3), (13, (0, ()), (), ()))
        for prime in support.PRIMES:
            for order in support.SAMPLES:
                for size in range(4):
                    self.assertIsNone(patch_breach(level_patch(prime, order, size)))

    def test_level_up_to_40(self):
        self.assertEqual(size_in_all(level_patch(2, support.antichain(13), 3)), 39)
        self.assertEqual(size_in_all(level_patch(2, support.antichain(16), 2)), 32)
        for n in (14, 15, 16):
            self.assertEqual(support.refused(level_patch, 2, support.antichain(n), 3), ("TooMany", 40))
        # Somewhat beyond the limit for a size, no error is told but that one.
        self.assertEqual(level_patch(2, support.antichain(4), 10)[2], (10,) * 4)
        self.assertEqual(support.refused(level_patch, 2, support.antichain(5), 9), ("TooMany", 40))

    def test_of_one_spot(self):
        order = support.order(4, (3, 1), (1, 0))
        self.assertEqual(order[1], ((1, 0), (3, 0), (3, 1)))
        self.assertEqual(lone_patch(5, order, 1), (5, order, (0, 1, 0, 0), ((), (), ((),))))
        self.assertEqual(standing(5, order, 1), (5, order, (0, 1, 0, 1), ((), (), ONE)))
        self.assertEqual(springing(5, order, 1), (5, order, (1, 1, 0, 0), (ONE, ((),), ((),))))
        for order in support.SAMPLES:
            for x in range(order[0]):
                for prime in (2, 13):
                    self.check_sizes(lone_patch(prime, order, x), prime, order, (x,))
                    self.check_sizes(standing(prime, order, x), prime, order, down_of(order, x))
                    self.check_sizes(springing(prime, order, x), prime, order, up_of(order, x))

    def check_sizes(self, patch, prime, order, spots):
        self.assertIsNone(patch_breach(patch))
        self.assertEqual(patch[:3], (prime, order, tuple(int(x in spots) for x in range(order[0]))))
        for x, y in order[1]:
            if x in spots and y in spots:
                self.assertEqual(support.lead_table(patch, x, y), ONE)

    def test_lead(self):
        self.assertEqual(lead(LINE, 0, 1), ((2,), (3,)))
        self.assertEqual(lead(LINE, 0, 2), ((1,),))
        self.assertEqual(lead(LINE, 1, 2), ((1, 3),))
        self.assertEqual(lead(LINE, 1, 1), ((1, 0), (0, 1)))
        self.assertEqual(lead(put(LINE, 2, (0, 2, 1)), 0, 0), ())
        for patch in support.patches(4, 60):
            for place, (x, y) in enumerate(patch[1][1]):
                self.assertEqual(lead(patch, x, y), patch[3][place])
            for x in range(patch[1][0]):
                self.assertEqual(lead(patch, x, x), support.identity(patch[2][x]))

    def test_cut(self):
        self.assertEqual(cut_patch(LINE, (0, 2)), (5, support.chain(2), (1, 1), (((1,),),)))
        self.assertEqual(cut_patch(LINE, ()), (5, (0, ()), (), ()))
        self.assertEqual(cut_patch(LINE, (0, 1, 2)), LINE)
        self.assertEqual(cut_patch(LINE, (1,)), (5, (1, ()), (2,), ()))
        for patch in support.patches(5, 40):
            for spots in support.subsets(patch[1][0]):
                part = cut_patch(patch, spots)
                self.assertIsNone(patch_breach(part))
                self.assertEqual(part[:2], (patch[0], part_order(patch[1], spots)))
                self.assertEqual(part[2], tuple(patch[2][x] for x in spots))
                for i, j in part[1][1]:
                    self.assertEqual(support.lead_table(part, i, j), support.lead_table(patch, spots[i], spots[j]))

    def test_size_in_all(self):
        self.assertEqual(size_in_all(LINE), 4)
        self.assertEqual(size_in_all((2, (0, ()), (), ())), 0)
        self.assertEqual(size_in_all((2, (6, ()), (8, 8, 8, 8, 7, 1), ())), 40)


if __name__ == "__main__":
    unittest.main()
