"""[18] to [21]: holes by rows, and where maps lead them."""

import random
import unittest

from patchrooms import holes
from patchrooms.holes import (border_of, connecting_rank, hole_basis, hole_parts, hole_rank, hole_size, hole_sizes,
                              hole_table, long_row, pieces_size)
from patchrooms.leadings import beside_order, loose_spots, product_order
from patchrooms.lots import rest_of
from patchrooms.maps import (image_maps, image_patch, kernel_map, kernel_patch, map_space, rest_map, rest_patch,
                             still_map)
from patchrooms.patches import cut_patch, level_patch, lone_patch, standing
from patchrooms.sums import beside_patch, outer_patch, sum_patch
from patchrooms.tables import reduced
from patchrooms.tellings import tellings
from tests import slow, support

FUNCTIONS = (border_of, connecting_rank, hole_basis, hole_parts, hole_rank, hole_size, hole_sizes, hole_table,
             long_row, pieces_size)
NONE = (7, slow.EMPTY, (), ())


def level(prime, order):
    return level_patch(prime, order, 1)


def too_many(*args, **named):
    return support.refused(*args, **named) == ("TooMany", 160)


def some_map(rng, one, other):
    basis = map_space(one, other)
    size = sum(a * b for a, b in zip(one[2], other[2]))
    return support.tables_of(one, other, support.random_member(rng, one[0], basis, size))


def mapped_pairs(seed, count, springs=3):
    rng = random.Random(seed)
    found = support.patch_pairs(seed, count, orders=slow.ORDERS, springs=springs)
    return [(one, other, some_map(rng, one, other)) for one, other in found
            if max(slow.most_loads(one), slow.most_loads(other)) <= 160]


def split_row(rng, patch, spots):
    """The exact row of the columns at an up set, of the patch and of its columns elsewhere, in other bases."""
    prime, order, sizes = patch[:3]
    parts = []
    for inside in (True, False):
        fewer = tuple(size if (x in spots) == inside else 0 for x, size in enumerate(sizes))
        tables = tuple(table if fewer[x] == sizes[x] and fewer[y] == sizes[y] else
                       support.zero_table(fewer[y], fewer[x]) for (x, y), table in zip(order[1], patch[3]))
        parts.append((prime, order, fewer, tables))
    one, first, _ = slow.turned_bases(rng, parts[0])
    third, _, second = slow.turned_bases(rng, parts[1])
    first = tuple(table if x in spots else ((),) * sizes[x] for x, table in enumerate(first))
    return one, patch, third, first, tuple(() if x in spots else table for x, table in enumerate(second))


def split_rows(seed, count):
    rng = random.Random(seed)
    return [split_row(rng, patch, slow.random_ups(rng, patch[1])) for patch in slow.holed_patches(seed, count)]


def exact_rows(seed, count):
    """(one, other, third, first, second), exact with 0 at both ends."""
    found = split_rows(seed, 2 * count)
    for one, other, led in mapped_pairs(seed, count):
        found.append((kernel_patch(one, other, led), one, image_patch(one, other, led), kernel_map(one, other, led),
                      image_maps(one, other, led)[0]))
        found.append((image_patch(one, other, led), other, rest_patch(one, other, led),
                      image_maps(one, other, led)[1], rest_map(one, other, led)))
    return found


class HoleSizesTest(unittest.TestCase):

    def test_given(self):
        for prime in support.PRIMES:
            self.assertEqual(hole_sizes(level(prime, support.CROWN)), (1, 1))
            self.assertEqual(hole_sizes(level(prime, support.HEXAGON)), (1, 1))
            self.assertEqual(hole_sizes(level(prime, support.DOUBLE_CROWN)), (1, 0, 1))
            self.assertEqual(hole_sizes(level(prime, support.DIAMOND)), (1, 0, 0))
            self.assertEqual(hole_sizes(level(prime, support.antichain(3))), (3,))
            self.assertEqual(hole_sizes(level(prime, support.chain(4))), (1, 0, 0, 0))
        self.assertEqual(hole_sizes(level_patch(3, support.CROWN, 2)), (2, 2))
        twisted = (5, support.CROWN, (1,) * 4, (((2,),), ((1,),), ((1,),), ((1,),)))
        self.assertEqual(hole_sizes(twisted), (0, 0))
        self.assertEqual(hole_sizes(lone_patch(3, support.VEE, 1)), (0, 0))
        self.assertEqual(hole_sizes(lone_patch(3, support.ROOF, 2)), (0, 1))
        self.assertEqual(hole_sizes(lone_patch(3, support.chain(2), 0)), (1, 0))
        # The torus: two crowns multiplied.
        self.assertEqual(hole_sizes(level(2, product_order(support.CROWN, support.CROWN))), (1, 2, 1))

    def test_a_prime_matters(self):
        for prime in support.PRIMES:
            self.assertEqual(hole_sizes(level(prime, slow.halved_cube())), (1, 1, 1) if prime == 2 else (1, 0, 0))

    def test_by_words(self):
        seen = set()
        for patch in slow.patches(1, 150, springs=4):
            found = hole_sizes(patch)
            self.assertTrue(support.is_plain(found))
            self.assertEqual(found, slow.hole_sizes(patch))
            for k in range(len(found)):
                self.assertEqual(hole_size(patch, k), found[k])
            for k in (len(found), len(found) + 1, 16, 17):
                self.assertEqual(hole_size(patch, k), 0)
            seen |= {(patch[0], k) for k, size in enumerate(found) if size}
        self.assertLessEqual({(prime, k) for prime in support.PRIMES for k in (0, 1)}, seen)

    def test_holes_of_high_degrees(self):
        # Pairs of spots one above another: a skin of the degree 3, and of 4 with one more layer.
        order = slow.layers(2, 2, 2, 2)
        for prime in support.PRIMES:
            self.assertEqual(hole_sizes(level(prime, order)), (1, 0, 0, 1))
            self.assertEqual([hole_size(level(prime, order), k) for k in range(5)], [1, 0, 0, 1, 0])
        self.assertEqual(hole_sizes(lone_patch(5, slow.layers(2, 2, 2, 2, 1), 8)), (0, 0, 0, 0, 1))
        self.assertEqual(hole_sizes(lone_patch(3, slow.layers(3, 2, 1), 5)), (0, 0, 2))

    def test_edges(self):
        self.assertEqual(hole_sizes(NONE), ())
        self.assertEqual([hole_size(NONE, k) for k in (0, 1, 16)], [0, 0, 0])
        for order in slow.ORDERS:
            nothing = level_patch(3, order, 0)
            self.assertEqual(hole_sizes(nothing), (0,) * (slow.height(order) + 1))
            self.assertEqual(hole_size(nothing, 0), 0)
        chain = support.chain(16)
        self.assertEqual(hole_sizes(lone_patch(3, chain, 0)), (1,) + (0,) * 15)
        self.assertEqual(hole_sizes(standing(3, chain, 3)), (1,) + (0,) * 15)
        self.assertEqual(hole_size(lone_patch(3, chain, 0), 15), 0)
        self.assertEqual(hole_size(lone_patch(3, chain, 0), 16), 0)

    def test_bound(self):
        self.assertEqual(hole_sizes(slow.JUST), (0, 128))
        self.assertEqual(hole_sizes(slow.JUST_2), (0, 0, 96))
        self.assertEqual(hole_sizes(level(2, support.chain(9))), (1,) + (0,) * 8)
        for patch in (slow.MORE, slow.MORE_2, level(2, support.chain(10)), level(2, support.chain(16))):
            self.assertTrue(too_many(hole_sizes, patch))
            for k in (0, 1, 2, 3, 16):
                self.assertTrue(too_many(hole_size, patch, k))

    def test_loads_are_rows_not_sizes_in_all(self):
        # 40 in all, but all rows short.
        patch = slow.flat(2, support.antichain(5), (8,) * 5)
        self.assertEqual(hole_sizes(patch), (40,))


def components(order):
    names = list(range(order[0]))
    for _ in names:
        for x, y in order[1]:
            names[x] = names[y] = min(names[x], names[y])
    return names


class BorderTest(unittest.TestCase):

    def test_given(self):
        # 0 below 1 below 2 over 5.
        line = (5, support.chain(3), (1, 2, 1), (((2,), (3,)), ((4,),), ((1, 4),)))
        self.assertEqual(border_of(line, 0, (1, 2, 3, 4)), (0, 0, (4 - 4) % 5, (4 - 2 - 12) % 5))
        self.assertEqual(border_of(line, 0, (1, 0, 0, 0)), ((-2) % 5, (-3) % 5, 1, 0))
        # Rows (0, 1), (0, 2), (1, 2): (1, 2) less (0, 2) and (0, 1) led on.
        self.assertEqual(border_of(line, 1, (1, 2, 3, 4)), ((4 - 3 + 1 + 4 * 2) % 5,))
        self.assertEqual(border_of(line, 2, (3,)), ())
        self.assertEqual(border_of(line, 3, ()), ())
        self.assertEqual(border_of(line, 16, ()), ())
        self.assertEqual(border_of(NONE, 0, ()), ())

    def test_by_words(self):
        rng = random.Random(2)
        for patch in slow.patches(2, 120):
            for k in range(slow.height(patch[1]) + 2):
                load = support.random_column(rng, patch[0], slow.load_size(patch, k))
                found = border_of(patch, k, load)
                self.assertTrue(support.is_plain(found))
                self.assertEqual(found, slow.border(patch, k, load))
                self.assertFalse(any(border_of(patch, k + 1, found)))

    def test_bound(self):
        self.assertEqual(border_of(slow.JUST, 1, (1,) * 160), ())
        self.assertEqual(len(border_of(slow.JUST, 0, (1,) * 32)), 160)
        self.assertTrue(too_many(border_of, slow.MORE, 0, (0,) * 23))
        self.assertTrue(too_many(border_of, slow.MORE, 1, (0,) * 161))
        self.assertTrue(too_many(border_of, slow.MORE_2, 0, (0,) * 8))
        self.assertTrue(too_many(border_of, slow.MORE, 16, ()))


class BasisTest(unittest.TestCase):

    def test_given(self):
        # Rows (0, 2), (0, 3), (1, 2), (1, 3): the borders are spanned by three loads, one place is free.
        crown = level(5, support.CROWN)
        self.assertEqual(hole_basis(crown, 1), ((1,),))
        self.assertEqual(hole_basis(crown, 0), ((1, 1, 1, 1),))
        self.assertEqual(hole_parts(crown, 1, (0, 0, 0, 1)), (1,))
        self.assertEqual(hole_parts(crown, 1, (1, 0, 0, 0)), (1,))
        self.assertEqual(hole_parts(crown, 1, (0, 1, 0, 0)), (4,))
        self.assertEqual(hole_parts(crown, 1, (2, 1, 3, 4)), (2,))
        self.assertEqual(hole_parts(crown, 0, (3, 3, 3, 3)), (3,))
        self.assertEqual(hole_basis(crown, 2), ())
        self.assertEqual(hole_parts(crown, 16, ()), ())
        self.assertEqual(hole_basis(NONE, 0), ())
        self.assertEqual(hole_parts(NONE, 0, ()), ())
        self.assertEqual(hole_basis(level_patch(2, support.CROWN, 0), 1), ())

    def test_by_words(self):
        rng = random.Random(3)
        unlike = 0
        for patch in slow.patches(3, 120, springs=4):
            prime = patch[0]
            for k in range(slow.height(patch[1]) + 1):
                size = slow.load_size(patch, k)
                made, closed = slow.borders(patch, k), slow.closed(patch, k)
                lot = reduced(prime, tuple(made), size)
                rests = [rest_of(prime, lot, load, size) for load in closed]
                basis = hole_basis(patch, k)
                self.assertTrue(support.is_plain(basis))
                self.assertEqual(basis, reduced(prime, tuple(rests), size - len(lot)))
                self.assertEqual(len(basis), hole_size(patch, k))
                one, other = (slow.some_of(rng, prime, closed, size) for _ in range(2))
                parts = [hole_parts(patch, k, load) for load in (one, other)]
                for load, part in zip((one, other), parts):
                    self.assertTrue(support.is_plain(part))
                    self.assertEqual(slow.combined(prime, part, basis, size - len(lot)),
                                     rest_of(prime, lot, load, size))
                # Loads are one hole exactly if they differ by a border.
                apart = slow.rank_beside(prime, [slow.added(prime, one, other, -1)], made)
                self.assertEqual(parts[0] == parts[1], apart == 0)
                unlike += apart
                same = slow.added(prime, one, slow.some_of(rng, prime, made, size))
                self.assertEqual(hole_parts(patch, k, same), parts[0])
        self.assertGreater(unlike, 60)

    def test_no_hole(self):
        rng = random.Random(4)
        seen = 0
        for patch in slow.patches(4, 100):
            for k in range(slow.height(patch[1])):
                load = support.random_column(rng, patch[0], slow.load_size(patch, k))
                refused = any(slow.border(patch, k, load))
                seen += refused
                self.assertEqual(support.refused(hole_parts, patch, k, load), ("NotHole",) if refused else None)
        self.assertGreater(seen, 60)

    def test_bound(self):
        self.assertEqual(len(hole_basis(slow.JUST, 1)), 128)
        self.assertEqual(len(hole_parts(slow.JUST, 1, (1,) * 160)), 128)
        for k, size in ((0, 23), (1, 161), (2, 0), (16, 0)):
            self.assertTrue(too_many(hole_basis, slow.MORE, k))
            self.assertTrue(too_many(hole_parts, slow.MORE, k, (0,) * size))
        self.assertTrue(too_many(hole_basis, slow.MORE_2, 0))
        # Too many loads are told ahead of a border that is not 0.
        self.assertTrue(too_many(hole_parts, slow.MORE, 0, (1,) * 23))
        self.assertTrue(any(slow.border(slow.MORE, 0, (1,) * 23)))


class SeveralFunctionsTest(unittest.TestCase):
    """[19]."""

    def test_degree_0_are_tellings(self):
        for patch in slow.patches(5, 120):
            spots = tuple(range(patch[1][0]))
            if spots:
                self.assertEqual(hole_basis(patch, 0), tellings(patch, spots))
                self.assertEqual(hole_sizes(patch)[0], len(slow.tellings(patch, spots)))

    def test_a_spot_below_all_others(self):
        orders = (support.VEE, support.chain(4), support.DIAMOND, slow.TALL, support.order(4, (3, 0), (3, 1), (3, 2)))
        for patch in slow.patches(6, 80, orders=orders):
            self.assertFalse(any(hole_sizes(patch)[1:]))

    def test_sums_with_signs(self):
        for patch in slow.patches(7, 120):
            self.assertEqual(slow.signed(hole_sizes(patch)), slow.whole_size(patch[1], patch[2]))

    def test_holes_of_sums(self):
        for one, other in support.patch_pairs(8, 80, orders=slow.ORDERS):
            both = sum_patch(one, other)
            if slow.most_loads(both) <= 160:
                self.assertEqual(hole_sizes(both),
                                 tuple(a + b for a, b in zip(hole_sizes(one), hole_sizes(other))))
        found = slow.patches(9, 60)
        for one, other in zip(found, found[6:]):
            both = beside_patch(one, other)
            sizes = [slow.trimmed(hole_sizes(part)) for part in (one, other)]
            many = max(len(part) for part in sizes)
            sizes = [part + (0,) * (many - len(part)) for part in sizes]
            self.assertEqual(slow.trimmed(hole_sizes(both)), slow.trimmed(a + b for a, b in zip(*sizes)))
            self.assertEqual(len(hole_sizes(both)), slow.height(beside_order(one[1], other[1])) + 1)

    def test_outer_patches(self):
        """[17]: what it says of hole sizes."""
        small = [value for value in support.SAMPLES if value[0] <= 4]
        found = slow.patches(10, 120, springs=2, bonds=1, orders=small + [support.CROWN, support.ROOF] * 4)
        seen = 0
        for one, other in zip(found, found[6:]):
            if one[1][0] * other[1][0] > 16:
                continue
            both = outer_patch(one, other)
            if support.refused(hole_sizes, both):
                continue
            first, second = hole_sizes(one), hole_sizes(other)
            expected = [0] * (len(first) + len(second))
            for i, a in enumerate(first):
                for j, b in enumerate(second):
                    expected[i + j] += a * b
            seen += any(expected[1:])
            for k in range(len(expected) + 2):
                self.assertEqual(hole_size(both, k), expected[k] if k < len(expected) else 0)
        self.assertGreater(seen, 8)

    def test_loose_spots(self):
        seen = 0
        for patch in slow.patches(11, 120):
            for x in loose_spots(patch[1]):
                seen += 1
                rest = cut_patch(patch, tuple(y for y in range(patch[1][0]) if y != x))
                self.assertEqual(slow.trimmed(hole_sizes(rest)), slow.trimmed(hole_sizes(patch)))
        self.assertGreater(seen, 100)

    def test_standing(self):
        for order in slow.ORDERS:
            for x in range(order[0]):
                self.assertEqual(hole_sizes(standing(7, order, x)), (1,) + (0,) * slow.height(order))

    def test_pieces(self):
        for order in slow.ORDERS:
            found = pieces_size(order)
            self.assertEqual(found, len(set(components(order))))
            for prime in support.PRIMES:
                self.assertEqual(found, hole_size(level(prime, order), 0))
        self.assertEqual(pieces_size(support.antichain(16)), 16)
        # No error, however many loads there are.
        self.assertEqual(pieces_size(support.chain(16)), 1)
        self.assertEqual(pieces_size(slow.layers(7, 9)), 1)
        self.assertEqual(pieces_size(slow.EMPTY), 0)


class MapsTest(unittest.TestCase):

    def test_given(self):
        crown = level(5, support.CROWN)
        twice = (((2,),),) * 4
        self.assertEqual(hole_table(crown, crown, twice, 0), ((2,),))
        self.assertEqual(hole_table(crown, crown, twice, 1), ((2,),))
        self.assertEqual(hole_table(crown, crown, twice, 2), ())
        self.assertEqual([hole_rank(crown, crown, twice, k) for k in (0, 1, 2, 16)], [1, 1, 0, 0])
        nothing = level_patch(5, support.CROWN, 0)
        self.assertEqual(hole_table(nothing, crown, ((),) * 4, 1), hole_table(nothing, crown, ((),) * 4, 0))
        self.assertEqual(hole_table(nothing, crown, (((),),) * 4, 1), ((),))
        self.assertEqual(hole_table(crown, nothing, ((),) * 4, 1), ())
        self.assertEqual(hole_table(NONE, NONE, (), 0), ())
        self.assertEqual(hole_rank(NONE, NONE, (), 0), 0)
        # A hole of the lone patch at the top becomes one of the crown.
        lone = lone_patch(5, support.CROWN, 3)
        led = (((),), ((),), ((),), ((1,),))
        self.assertEqual(hole_sizes(lone), (0, 1))
        self.assertEqual(hole_table(lone, crown, led, 1), ((1,),))
        self.assertEqual(hole_rank(lone, crown, led, 1), 1)
        self.assertEqual(hole_rank(lone, crown, led, 0), 0)

    def test_by_words(self):
        rng = random.Random(12)
        ranks = 0
        for one, other, led in mapped_pairs(12, 150):
            prime = one[0]
            for k in range(slow.height(one[1]) + 1):
                size = slow.load_size(one, k)
                closed = slow.closed(one, k)
                table = hole_table(one, other, led, k)
                self.assertTrue(support.is_plain(table))
                self.assertEqual(len(table), hole_size(other, k))
                self.assertTrue(all(len(line) == hole_size(one, k) for line in table))
                load = slow.some_of(rng, prime, closed, size)
                self.assertEqual(support.times(prime, table, hole_parts(one, k, load)),
                                 hole_parts(other, k, slow.led_load(one, other, led, k, load)))
                made = [slow.led_load(one, other, led, k, column) for column in closed]
                rank = slow.rank_beside(prime, made, slow.borders(other, k))
                self.assertEqual(hole_rank(one, other, led, k), rank)
                self.assertEqual(support.rank_of(prime, table), rank)
                ranks += rank if k else 0
        self.assertGreater(ranks, 20)

    def test_one_behind_the_other(self):
        rng = random.Random(13)
        for one, other, first in mapped_pairs(13, 80):
            third = support.random_patch(rng, one[0], one[1], 3, 1)
            if slow.most_loads(third) > 160:
                continue
            second = some_map(rng, other, third)
            both = tuple(support.matrix_times(one[0], a, b, size) for a, b, size in zip(first, second, one[2]))
            for k in range(slow.height(one[1]) + 2):
                tables = hole_table(one, other, first, k), hole_table(other, third, second, k)
                self.assertEqual(hole_table(one, third, both, k),
                                 support.matrix_times(one[0], *tables, hole_size(one, k)))
            for k in range(slow.height(one[1]) + 1):
                self.assertEqual(hole_table(one, one, still_map(one), k), support.identity(hole_size(one, k)))

    def test_bound(self):
        zero = tuple(((0,) * size,) * size for size in slow.JUST[2])
        for k in (0, 1, 2):
            self.assertEqual(hole_rank(slow.JUST, slow.JUST, zero, k), 0)
            self.assertEqual(hole_rank(slow.JUST, slow.JUST, still_map(slow.JUST), k), 128 if k == 1 else 0)
        nothing = level_patch(3, slow.MORE[1], 0)
        toward, away = tuple(((),) * size for size in slow.MORE[2]), ((),) * 10
        for k in (0, 1, 2, 16):
            for function in (hole_rank, hole_table):
                self.assertTrue(too_many(function, nothing, slow.MORE, toward, k))
                self.assertTrue(too_many(function, slow.MORE, nothing, away, k))
                self.assertTrue(too_many(function, slow.MORE, slow.MORE, still_map(slow.MORE), k))


def connecting_by_words(one, other, third, first, second, k):
    """Each hole of third: loads of other led to it, their borders, and the loads of one from which these come."""
    prime, found = one[0], []
    every, more = slow.units(slow.load_size(other, k)), slow.units(slow.load_size(one, k + 1))
    led = [slow.led_load(other, third, second, k, load) for load in every]
    kept = [slow.led_load(one, other, first, k + 1, load) for load in more]
    for load in slow.closed(third, k):
        lifted = slow.combined(prime, slow.solution(prime, led, load), every, len(every))
        made = slow.border(other, k, lifted)
        found.append(slow.solution(prime, kept, made))
    return slow.rank_beside(prime, found, slow.borders(one, k + 1))


class LongRowTest(unittest.TestCase):

    def test_given(self):
        # The top of the crown, the crown, and the rest of it.
        crown = level(5, support.CROWN)
        lone = lone_patch(5, support.CROWN, 3)
        rest = (5, support.CROWN, (1, 1, 1, 0), (((1,),), (), ((1,),), ()))
        first = (((),), ((),), ((),), ((1,),))
        second = (((1,),), ((1,),), ((1,),), ())
        row = lone, crown, rest, first, second
        self.assertEqual(long_row(*row), ((0, 1, 0), (1, 0, 0)))
        self.assertEqual([connecting_rank(*row, k) for k in (0, 1, 2, 16)], [0, 0, 0, 0])
        # Both tops of the crown: of the two tellings below one is led on to a hole.
        tops = (5, support.CROWN, (0, 0, 1, 1), (((),),) * 4)
        lows = (5, support.CROWN, (1, 1, 0, 0), ((),) * 4)
        row = (tops, crown, lows, (((),), ((),), ((1,),), ((1,),)), (((1,),), ((1,),), (), ()))
        self.assertEqual(long_row(*row), ((0, 1, 1), (1, 0, 0)))
        self.assertEqual(connecting_rank(*row, 0), 1)
        self.assertEqual(long_row(NONE, NONE, NONE, (), ()), ())
        self.assertEqual(connecting_rank(NONE, NONE, NONE, (), (), 0), 0)

    def test_by_words(self):
        seen = 0
        for row in exact_rows(14, 60):
            one, other, third, first, second = row
            found = long_row(*row)
            self.assertTrue(support.is_plain(found))
            self.assertEqual(len(found), slow.height(one[1]) + 1)
            for k, ranks in enumerate(found):
                connecting = connecting_by_words(*row, k)
                seen += connecting
                self.assertEqual(connecting_rank(*row, k), connecting)
                self.assertEqual(ranks, (hole_rank(one, other, first, k), hole_rank(other, third, second, k),
                                         connecting))
            self.assertEqual(connecting_rank(*row, len(found)), 0)
            self.assertEqual(connecting_rank(*row, 16), 0)
        self.assertGreater(seen, 20)

    def test_each_rank_and_the_next_one(self):
        for row in exact_rows(15, 60):
            ranks = [0] + [rank for ranks in long_row(*row) for rank in ranks]
            sizes = [size for sizes in zip(*(hole_sizes(patch) for patch in row[:3])) for size in sizes]
            self.assertEqual([a + b for a, b in zip(ranks, ranks[1:])], sizes)
            self.assertEqual(ranks[-1], 0)

    def test_not_exact(self):
        crown = level(5, support.CROWN)
        nothing = level_patch(5, support.CROWN, 0)
        two = level_patch(5, support.CROWN, 2)
        still, zero = still_map(crown), (((0,),),) * 4
        put, take = (((1,), (0,)),) * 4, (((0, 1),),) * 4
        into, away = (((),),) * 4, ((),) * 4
        exact = ((crown, two, crown, put, take), (nothing, crown, crown, into, still),
                 (crown, crown, nothing, still, away), (nothing, nothing, nothing, away, away))
        for row in exact:
            self.assertIsNone(support.refused(long_row, *row))
            self.assertIsNone(support.refused(connecting_rank, *row, 0))
        wrong = ((crown, crown, nothing, zero, away),  # the first one loses columns
                 (nothing, crown, crown, into, zero),  # the second one does not reach all
                 (crown, crown, crown, still, still),  # not 0 one behind the other
                 (nothing, crown, nothing, into, away),  # what the second one loses does not come from the first
                 (crown, two, crown, put, (((1, 0),),) * 4), (crown, two, crown, put, (((1, 1),),) * 4),
                 (crown, two, crown, (((0,), (0,)),) * 4, take), (crown, two, crown, put, (((0, 0),),) * 4),
                 (crown, two, nothing, put, away), (nothing, two, crown, (((), ()),) * 4, take))
        for row in wrong:
            self.assertEqual(support.refused(long_row, *row), ("NotExact",))
            for k in (0, 1, 16):
                self.assertEqual(support.refused(connecting_rank, *row, k), ("NotExact",))
        # One spot is enough.
        one = (3, support.antichain(2), (1, 1), ())
        less = (3, support.antichain(2), (1, 0), ())
        self.assertEqual(support.refused(long_row, one, one, less, (((1,),), ((1,),)), (((0,),), ())), ("NotExact",))
        self.assertEqual(support.refused(long_row, less, one, one, (((0,),), ((),)), (((1,),), ((1,),))),
                         ("NotExact",))

    def test_bound(self):
        nothing = level_patch(3, slow.MORE[1], 0)
        toward, away = tuple(((),) * size for size in slow.MORE[2]), ((),) * 10
        still = still_map(slow.MORE)
        for row in ((nothing, slow.MORE, slow.MORE, toward, still), (slow.MORE, slow.MORE, nothing, still, away)):
            self.assertTrue(too_many(long_row, *row))
            for k in (0, 1, 16):
                self.assertTrue(too_many(connecting_rank, *row, k))
        # No exact row: this is told ahead.
        for row in ((nothing, slow.MORE, nothing, toward, away), (slow.MORE, slow.MORE, slow.MORE, still, still)):
            self.assertEqual(support.refused(long_row, *row), ("NotExact",))
            self.assertEqual(support.refused(connecting_rank, *row, 0), ("NotExact",))
        nothing = level_patch(3, slow.JUST[1], 0)
        row = nothing, slow.JUST, slow.JUST, tuple(((),) * size for size in slow.JUST[2]), still_map(slow.JUST)
        self.assertEqual(long_row(*row), ((0, 0, 0), (0, 128, 0)))

    def test_two_parts_with_few_loads_make_a_patch_with_too_many(self):
        order = slow.layers(7, 3)
        one, third = slow.flat(3, order, (0,) * 7 + (8, 4, 0)), slow.flat(3, order, (0,) * 7 + (0, 4, 7))
        first = ((),) * 7 + (support.identity(8), support.identity(4) + ((0,) * 4,) * 4, ((),) * 7)
        second = ((),) * 7 + ((), tuple((0,) * 4 + line for line in support.identity(4)), support.identity(7))
        for patch in (one, third):
            self.assertIsNone(support.refused(hole_sizes, patch))
        self.assertTrue(too_many(long_row, one, slow.MORE, third, first, second))
        self.assertTrue(too_many(connecting_rank, one, slow.MORE, third, first, second, 16))


class InterfaceTest(unittest.TestCase):

    def test_each_is_defined_here(self):
        for function in FUNCTIONS:
            self.assertEqual(function.__module__, holes.__name__)


if __name__ == "__main__":
    unittest.main()
