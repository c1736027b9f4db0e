"""[11]: tellings, what is cut of them and glued."""

import random
import unittest

from patchrooms.leadings import pieces
from patchrooms.orders import up_of, ups
from patchrooms.patches import cut_patch, level_patch, lone_patch, standing
from patchrooms.tellings import cut_telling, glued, tellings
from tests import support

LINE = (5, (3, ((0, 1), (0, 2), (1, 2))), (1, 2, 1), (((2,), (3,)), ((1,),), ((1, 3),)))


def size_of(patch, spots):
    return sum(patch[2][x] for x in spots)


class TellingsTest(unittest.TestCase):

    def test_given(self):
        self.assertEqual(tellings(LINE, (0, 1, 2)), ((1, 2, 3, 1),))
        self.assertEqual(tellings(LINE, (1, 2)), ((1, 0, 1), (0, 1, 3)))
        self.assertEqual(tellings(LINE, (0, 2)), ((1, 1),))
        self.assertEqual(tellings(LINE, (0, 1)), ((1, 2, 3),))
        self.assertEqual(tellings(LINE, (2,)), ((1,),))
        self.assertEqual(tellings(LINE, ()), ())
        self.assertEqual(tellings((2, (0, ()), (), ()), ()), ())
        self.assertEqual(tellings(level_patch(3, (2, ()), 0), (0, 1)), ())

    def test_against_all_columns(self):
        rng = random.Random(1)
        tried = 0
        for patch in support.patches(1, 250, springs=3):
            spots = rng.choice(support.subsets(patch[1][0]))
            size = size_of(patch, spots)
            if patch[0] ** size > 3000:
                continue
            tried += 1
            found = tellings(patch, spots)
            self.assertTrue(support.is_plain(found))
            self.assertTrue(support.is_reduced(found))
            expected = {column for column in support.all_columns(patch[0], size)
                        if support.is_telling(patch, spots, column)}
            self.assertEqual(support.span(patch[0], found, size), expected)
        self.assertGreater(tried, 150)

    def test_are_told_at_the_least_spot(self):
        for patch in support.patches(2, 150, springs=6):
            for x in range(patch[1][0]):
                spots = up_of(patch[1], x)
                found = tellings(patch, spots)
                self.assertEqual(len(found), patch[2][x])
                self.assertTrue(all(support.is_telling(patch, spots, column) for column in found))

    def test_are_those_of_what_is_cut(self):
        rng = random.Random(3)
        for patch in support.patches(3, 150, springs=6):
            spots = rng.choice(support.subsets(patch[1][0]))
            part = cut_patch(patch, spots)
            self.assertEqual(tellings(part, tuple(range(len(spots)))), tellings(patch, spots))
            lowest = tuple(x for x in spots if not [y for y in spots if (y, x) in patch[1][1]])
            cut = [cut_telling(patch, spots, lowest, column) for column in tellings(patch, spots)]
            self.assertEqual(support.rank_of(patch[0], cut), len(cut))

    def test_numbers_of_the_document(self):
        for order in support.SAMPLES:
            spots = tuple(range(order[0]))
            for prime in (2, 7):
                self.assertEqual(len(tellings(level_patch(prime, order, 1), spots)), len(pieces(order)))
                for x in spots:
                    self.assertEqual(len(tellings(standing(prime, order, x), spots)), 1)
                    lone = len(tellings(lone_patch(prime, order, x), spots))
                    self.assertEqual(lone, 0 if [y for y in spots if (y, x) in order[1]] else 1)

    def test_a_spot_of_the_size_8(self):
        rng = random.Random(4)
        for prime in support.PRIMES:
            table = support.random_table(rng, prime, 8, 8)
            found = tellings((prime, support.chain(2), (8, 8), (table,)), (0, 1))
            self.assertEqual(len(found), 8)
            for k, column in enumerate(found):
                self.assertEqual(column, support.identity(8)[k] + tuple(line[k] for line in table))
        wide = (3, support.antichain(5), (8,) * 5, ())
        self.assertEqual(tellings(wide, (0, 1, 2, 3, 4)), support.identity(40))


class CutAndGluedTest(unittest.TestCase):

    def test_given(self):
        self.assertEqual(cut_telling(LINE, (0, 1, 2), (1, 2), (3, 1, 4, 3)), (1, 4, 3))
        self.assertEqual(cut_telling(LINE, (0, 1, 2), (0, 2), (3, 1, 4, 3)), (3, 3))
        self.assertEqual(cut_telling(LINE, (1, 2), (2,), (1, 4, 3)), (3,))
        self.assertEqual(cut_telling(LINE, (1, 2), (1, 2), (1, 4, 3)), (1, 4, 3))
        self.assertEqual(cut_telling(LINE, (1, 2), (), (1, 4, 3)), ())

    def test_glued_given(self):
        roof = level_patch(3, support.ROOF, 1)
        self.assertEqual(glued(roof, (0, 2), (1, 2), (2, 2), (2, 2)), (2, 2, 2))
        self.assertIsNone(glued(roof, (0, 2), (1, 2), (2, 2), (1, 1)))
        self.assertEqual(glued(roof, (0, 2), (2,), (2, 2), (2,)), (2, 2))
        self.assertEqual(glued(roof, (), (2,), (), (1,)), (1,))
        self.assertEqual(glued(roof, (), (), (), ()), ())
        # Spots of the size 0 tell nothing that could be unlike.
        empty = (3, support.ROOF, (1, 1, 0), ((), ()))
        self.assertEqual(glued(empty, (0, 2), (1, 2), (2,), (1,)), (2, 1))

    def test_glued_tells_both(self):
        rng = random.Random(5)
        agreed = refused = 0
        for patch in support.patches(6, 400, springs=6):
            sets = ups(patch[1])
            one, other = rng.choice(sets), rng.choice(sets)
            both = tuple(sorted(set(one) | set(other)))
            shared = tuple(sorted(set(one) & set(other)))
            whole = support.random_member(rng, patch[0], tellings(patch, both), size_of(patch, both))
            first, second = cut_telling(patch, both, one, whole), cut_telling(patch, both, other, whole)
            self.assertTrue(support.is_telling(patch, one, first))
            self.assertEqual(glued(patch, one, other, first, second), whole)
            second = support.random_member(rng, patch[0], tellings(patch, other), size_of(patch, other))
            if cut_telling(patch, one, shared, first) == cut_telling(patch, other, shared, second):
                agreed += 1
                whole = glued(patch, one, other, first, second)
                self.assertTrue(support.is_telling(patch, both, whole))
                self.assertEqual(cut_telling(patch, both, one, whole), first)
                self.assertEqual(cut_telling(patch, both, other, whole), second)
            else:
                refused += 1
                self.assertIsNone(glued(patch, one, other, first, second))
        self.assertGreater(agreed, 20)
        self.assertGreater(refused, 20)

    def test_numbers_add_up(self):
        rng = random.Random(7)
        for patch in support.patches(8, 200, springs=6):
            sets = ups(patch[1])
            one, other = rng.choice(sets), rng.choice(sets)
            both = tuple(sorted(set(one) | set(other)))
            shared = tuple(sorted(set(one) & set(other)))
            cut = [cut_telling(patch, spots, shared, column)
                   for spots in (one, other) for column in tellings(patch, spots)]
            total = len(tellings(patch, both)) + support.rank_of(patch[0], cut)
            self.assertEqual(total, len(tellings(patch, one)) + len(tellings(patch, other)))


if __name__ == "__main__":
    unittest.main()
