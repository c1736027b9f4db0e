"""[22]: products of loads and of holes."""

import random
import unittest

from patchrooms.holes import border_of, hole_basis, hole_parts, hole_size, hole_sizes
from patchrooms.leadings import product_order
from patchrooms.patches import level_patch, lone_patch
from patchrooms.products import product_load, product_rank
from patchrooms.sums import mixed_patch
from tests import slow, support

NONE = (7, slow.EMPTY, (), ())
TORUS = product_order(support.CROWN, support.CROWN)
# A skin of the degree 3.
SKIN = slow.layers(2, 2, 2, 2)


def level(prime, order):
    return level_patch(prime, order, 1)


def mixed_column(prime, one, other):
    return tuple(a * b % prime for a in one for b in other)


def product_by_words(one, other, i, j, f, g):
    """What f tells for the first spots, led on, mixed with what g tells for the last ones."""
    prime = one[0]
    first, second = slow.told_by_rows(one, i, f), slow.told_by_rows(other, j, g)
    found = ()
    for row in slow.rows(one[1], i + j):
        led = support.times(prime, support.lead_table(one, row[i], row[-1]), first[row[:i + 1]])
        found += mixed_column(prime, led, second[row[i:]])
    return found


def exchanged(one, other, k, load):
    """The load of the mixed patch with its entries in the other sequence: a * m + b to b * l + a."""
    mixed = mixed_patch(one, other)
    found = ()
    for row, column in slow.told_by_rows(mixed, k, load).items():
        size, many = one[2][row[-1]], other[2][row[-1]]
        found += tuple(column[a * many + b] for b in range(many) for a in range(size))
    return found


def fitting(pairs):
    """Those pairs of which the mixed patch is not too great and has not too many loads."""
    found = []
    for one, other in pairs:
        fits = support.sizes_fit(tuple(a * b for a, b in zip(one[2], other[2])))
        if fits and all(slow.most_loads(part) <= 160 for part in (one, other, mixed_patch(one, other))):
            found.append((one, other))
    return found


def mixing_pairs(seed, count, springs=3):
    """Such pairs over many orders."""
    found = support.patch_pairs(seed, count, orders=slow.HOLED + slow.ORDERS, springs=springs)
    return fitting(found + slow.made_pairs(seed, count // 2))


def some_load(rng, patch, k):
    return support.random_column(rng, patch[0], slow.load_size(patch, k))


def some_closed(rng, patch, k):
    return slow.some_of(rng, patch[0], slow.closed(patch, k), slow.load_size(patch, k))


class LoadTest(unittest.TestCase):

    def test_given(self):
        two = support.chain(2)
        one = (5, two, (1, 2), (((2,), (3,)),))
        other = (5, two, (2, 2), (((1, 4), (0, 2)),))
        # At 0: 3 times (1, 2); at 1: the mixed column of (1, 4) and (2, 3).
        self.assertEqual(product_load(one, other, 0, 0, (3, 1, 4), (1, 2, 2, 3)), (3, 1, 2, 3, 3, 2))
        # For (0, 1): 3 led on to (6, 9), mixed with (2, 3).
        self.assertEqual(product_load(one, other, 0, 1, (3, 1, 4), (2, 3)), (2, 3, 3, 2))
        # For (0, 1): (1, 4) mixed with what is told at 1.
        self.assertEqual(product_load(one, other, 1, 0, (1, 4), (4, 4, 2, 3)), (2, 3, 3, 2))
        self.assertEqual(product_load(one, other, 1, 1, (1, 4), (2, 3)), ())
        self.assertEqual(product_load(one, other, 16, 0, (), (1, 2, 2, 3)), ())
        self.assertEqual(product_load(NONE, NONE, 0, 0, (), ()), ())
        nothing = level_patch(5, two, 0)
        self.assertEqual(product_load(nothing, other, 0, 0, (), (1, 2, 2, 3)), ())
        self.assertEqual(product_load(other, nothing, 0, 1, (1, 2, 2, 3), ()), ())

    def test_by_words(self):
        rng = random.Random(1)
        seen = 0
        for one, other in mixing_pairs(1, 120):
            top = slow.height(one[1])
            for i in range(top + 2):
                for j in range(top + 2):
                    f, g = some_load(rng, one, i), some_load(rng, other, j)
                    found = product_load(one, other, i, j, f, g)
                    self.assertTrue(support.is_plain(found))
                    self.assertEqual(found, product_by_words(one, other, i, j, f, g))
                    seen += any(found) and i > 0 and j > 0
        self.assertGreater(seen, 25)

    def test_borders(self):
        rng = random.Random(2)
        for one, other in mixing_pairs(2, 80):
            mixed = mixed_patch(one, other)
            top = slow.height(one[1])
            for i in range(top + 1):
                for j in range(top + 1 - i):
                    f, g = some_load(rng, one, i), some_load(rng, other, j)
                    made = border_of(mixed, i + j, product_load(one, other, i, j, f, g))
                    first = product_load(one, other, i + 1, j, border_of(one, i, f), g)
                    second = product_load(one, other, i, j + 1, f, border_of(other, j, g))
                    self.assertEqual(made, slow.added(one[0], first, second, (-1) ** i))

    def test_the_telling_of_1(self):
        rng = random.Random(3)
        for patch in slow.patches(3, 80):
            whole = level(patch[0], patch[1])
            ones = (1,) * patch[1][0]
            for k in range(slow.height(patch[1]) + 1):
                load = some_load(rng, patch, k)
                self.assertEqual(product_load(whole, patch, 0, k, ones, load), load)
                self.assertEqual(product_load(patch, whole, k, 0, load, ones), load)

    def test_three_loads(self):
        rng = random.Random(4)
        seen = 0
        for one, other in mixing_pairs(4, 120, springs=2):
            third = support.random_patch(rng, one[0], one[1], 2, 1)
            if not support.sizes_fit(tuple(a * b * c for a, b, c in zip(one[2], other[2], third[2]))):
                continue
            left, right = mixed_patch(one, other), mixed_patch(other, third)
            if not support.sizes_fit(right[2]):
                continue
            self.assertEqual(mixed_patch(left, third), mixed_patch(one, right))
            for i, j, k in ((0, 0, 0), (0, 0, 1), (0, 1, 0), (1, 0, 0), (1, 1, 0), (0, 1, 1), (1, 0, 1), (2, 0, 0)):
                f, g, h = some_load(rng, one, i), some_load(rng, other, j), some_load(rng, third, k)
                found = product_load(left, third, i + j, k, product_load(one, other, i, j, f, g), h)
                self.assertEqual(found, product_load(one, right, i, j + k, f, product_load(other, third, j, k, g, h)))
                seen += any(found)
        self.assertGreater(seen, 60)

    def test_the_other_sequence(self):
        rng = random.Random(5)
        unlike, opposite = 0, 0
        torus = level(3, TORUS)
        pairs = mixing_pairs(5, 200, springs=5) + [(torus, torus)] * 3
        for one, other in pairs:
            prime, top = one[0], slow.height(one[1])
            back = mixed_patch(other, one)
            for i in range(top + 1):
                for j in range(top + 1 - i):
                    f, g = some_closed(rng, one, i), some_closed(rng, other, j)
                    first = exchanged(one, other, i + j, product_load(one, other, i, j, f, g))
                    second = product_load(other, one, j, i, g, f)
                    factor = (-1) ** (i * j)
                    parts = hole_parts(back, i + j, second)
                    self.assertEqual(hole_parts(back, i + j, first), tuple(factor * a % prime for a in parts))
                    unlike += first != second
                    opposite += any(parts) and i == j == 1
        self.assertGreater(unlike, 5)
        self.assertGreater(opposite, 0)

    def test_products_of_holes_are_holes(self):
        rng = random.Random(6)
        for one, other in mixing_pairs(6, 60):
            mixed = mixed_patch(one, other)
            prime, top = one[0], slow.height(one[1])
            for i in range(top + 1):
                for j in range(top + 1 - i):
                    f, g = some_closed(rng, one, i), some_closed(rng, other, j)
                    product = product_load(one, other, i, j, f, g)
                    self.assertFalse(any(slow.border(mixed, i + j, product)))
                    more = slow.added(prime, f, slow.some_of(rng, prime, slow.borders(one, i), len(f)))
                    further = slow.added(prime, g, slow.some_of(rng, prime, slow.borders(other, j), len(g)))
                    self.assertEqual(hole_parts(mixed, i + j, product_load(one, other, i, j, more, further)),
                                     hole_parts(mixed, i + j, product))


def rank_by_words(one, other, i, j):
    mixed = mixed_patch(one, other)
    products = [product_by_words(one, other, i, j, f, g)
                for f in loads_of(one, i) for g in loads_of(other, j)]
    return slow.rank_beside(one[0], products, slow.borders(mixed, i + j))


def loads_of(patch, k):
    every = slow.units(slow.load_size(patch, k))
    return [slow.combined(patch[0], factors, every, len(every)) for factors in slow.closed(patch, k)]


class RankTest(unittest.TestCase):

    def test_given(self):
        for prime in support.PRIMES:
            crown, torus = level(prime, support.CROWN), level(prime, TORUS)
            self.assertEqual([[product_rank(crown, crown, i, j) for j in range(3)] for i in range(3)],
                             [[1, 1, 0], [1, 0, 0], [0, 0, 0]])
            self.assertEqual([[product_rank(torus, torus, i, j) for j in range(3)] for i in range(3)],
                             [[1, 2, 1], [2, 1, 0], [1, 0, 0]])
            self.assertEqual(product_rank(crown, crown, 16, 16), 0)
        plane = slow.halved_cube()
        self.assertEqual([product_rank(level(2, plane), level(2, plane), 1, 1),
                          product_rank(level(3, plane), level(3, plane), 1, 1)], [1, 0])
        # A crown beside two tied ones has a hole of its own, whose products are 0.
        self.assertEqual(product_rank(NONE, NONE, 0, 0), 0)
        self.assertEqual(product_rank(level(3, support.CROWN), level_patch(3, support.CROWN, 0), 0, 0), 0)
        self.assertEqual(product_rank(level_patch(5, support.CROWN, 2), level_patch(5, support.CROWN, 3), 1, 0), 6)

    def test_by_words(self):
        seen = 0
        for one, other in mixing_pairs(7, 80, springs=4) + fitting(slow.made_pairs(71, 70, 3)):
            top = slow.height(one[1])
            for i in range(top + 1):
                for j in range(top + 1):
                    found = product_rank(one, other, i, j)
                    self.assertIs(type(found), int)
                    self.assertEqual(found, rank_by_words(one, other, i, j))
                    seen += found > 0 and i + j > 0
        self.assertGreater(seen, 20)

    def test_the_level_patch_reaches_all(self):
        for patch in slow.holed_patches(8, 60):
            whole = level(patch[0], patch[1])
            for k in range(slow.height(patch[1]) + 1):
                self.assertEqual(product_rank(whole, patch, 0, k), hole_size(patch, k))
                self.assertEqual(product_rank(patch, whole, k, 0), hole_size(patch, k))

    def test_round_orders(self):
        """Orders that are tied and round of the degree d over 2."""
        for order, d in ((support.CROWN, 1), (support.HEXAGON, 1), (support.DOUBLE_CROWN, 2), (TORUS, 2), (SKIN, 3),
                         (slow.halved_cube(), 2), (slow.layers(1), 0)):
            whole = level(2, order)
            sizes = hole_sizes(whole)
            for i in range(d + 1):
                self.assertEqual(product_rank(whole, whole, i, d - i), int(sizes[i] > 0))
                # No hole but 0 has only products 0 with all holes of the degree d - i.
                firsts, seconds = holes_of(whole, i), holes_of(whole, d - i)
                lines = [tuple(hole_parts(whole, d, product_load(whole, whole, i, d - i, f, g))[0] for g in seconds)
                         for f in firsts]
                self.assertEqual(support.rank_of(2, lines), sizes[i])


def holes_of(patch, k):
    """Loads, one for each hole of a basis."""
    found = []
    for load in loads_of(patch, k):
        if slow.rank_beside(patch[0], [load], slow.borders(patch, k) + found):
            found.append(load)
    assert len(found) == len(hole_basis(patch, k))
    return found


class ErrorsTest(unittest.TestCase):

    def test_not_fit(self):
        crown = level(5, support.CROWN)
        for other in (level(3, support.CROWN), level(5, support.DIAMOND), level(5, support.antichain(4))):
            for i, j in ((0, 0), (1, 0), (16, 16)):
                self.assertEqual(support.refused(product_rank, crown, other, i, j), ("NotFit",))
                self.assertEqual(support.refused(product_load, crown, other, i, j, (), (1, 2, 3)), ("NotFit",))
        self.assertEqual(support.refused(product_rank, level(5, support.chain(16)), slow.MORE, 0, 0), ("NotFit",))

    def test_too_great(self):
        wide = slow.flat(2, support.antichain(2), (7, 1)), slow.flat(2, support.antichain(2), (6, 1))
        high = slow.flat(2, support.antichain(2), (3, 1)), slow.flat(2, support.antichain(2), (3, 1))
        for f, g in (((0,) * 8, (0,) * 7), ((), ()), ((1,), (1,) * 99)):
            self.assertEqual(support.refused(product_load, *wide, 0, 0, f, g), ("TooMany", 40))
            self.assertEqual(support.refused(product_load, *high, 0, 0, f, g), ("TooMany", 8))
        for i, j in ((0, 0), (1, 1), (16, 16)):
            self.assertEqual(support.refused(product_rank, *wide, i, j), ("TooMany", 40))
            self.assertEqual(support.refused(product_rank, *high, i, j), ("TooMany", 8))
        just = slow.flat(2, support.antichain(5), (2, 4, 8, 1, 8)), slow.flat(2, support.antichain(5), (4, 2, 1, 8, 1))
        self.assertEqual(product_rank(*just, 0, 0), 40)
        # What mixed_patch raises stands ahead of too many loads.
        self.assertEqual(support.refused(product_rank, slow.MORE, slow.MORE, 0, 0), ("TooMany", 40))
        order = slow.layers(7, 3)
        one, other = slow.flat(3, order, (0,) * 7 + (8, 8, 7)), slow.flat(3, order, (0,) * 7 + (2, 0, 0))
        self.assertEqual(support.refused(product_rank, one, other, 0, 0), ("TooMany", 8))

    def test_too_many_loads_of_any_one(self):
        nothing = level_patch(3, slow.MORE[1], 0)
        for i, j in ((0, 0), (1, 0), (16, 16)):
            self.assertEqual(support.refused(product_rank, slow.MORE, nothing, i, j), ("TooMany", 160))
            self.assertEqual(support.refused(product_rank, nothing, slow.MORE, i, j), ("TooMany", 160))
        # Of neither, but of the mixed patch.
        order = slow.layers(7, 3)
        one, other = slow.flat(3, order, (0,) * 7 + (4, 4, 4)), slow.flat(3, order, (0,) * 7 + (2, 2, 2))
        self.assertEqual(support.refused(product_rank, one, other, 0, 1), ("TooMany", 160))
        self.assertEqual(support.refused(product_rank, one, other, 16, 16), ("TooMany", 160))
        just = slow.flat(3, slow.JUST[1], (0,) * 5 + (4,) * 4), slow.flat(3, slow.JUST[1], (0,) * 5 + (2,) * 4)
        self.assertEqual(product_rank(*just, 1, 0), 0)
        self.assertEqual(product_rank(slow.JUST, level(3, slow.JUST[1]), 1, 0), 128)

    def test_no_bound_on_loads_of_products(self):
        chain = support.chain(12)
        whole = level(3, chain)
        rng = random.Random(9)
        f, g = support.random_column(rng, 3, 12), support.random_column(rng, 3, 792)
        self.assertEqual(product_load(whole, whole, 0, 4, f, g), product_by_words(whole, whole, 0, 4, f, g))
        self.assertEqual(product_load(whole, whole, 1, 1, (1,) * 66, (2,) * 66), (2,) * 220)
        nothing = level_patch(3, slow.MORE[1], 0)
        self.assertEqual(product_load(slow.MORE, nothing, 1, 0, (1,) * 161, ()), ())
        self.assertEqual(len(product_load(slow.MORE, level(3, slow.MORE[1]), 1, 0, (1,) * 161, (1,) * 10)), 161)

    def test_the_top_of_a_lone_patch(self):
        lone = lone_patch(5, support.ROOF, 2)
        whole = level(5, support.ROOF)
        self.assertEqual(product_rank(whole, lone, 0, 1), 1)
        self.assertEqual(product_rank(lone, whole, 1, 0), 1)
        self.assertEqual(product_rank(lone, lone, 0, 1), 0)


if __name__ == "__main__":
    unittest.main()
