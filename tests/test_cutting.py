"""[38], [39]: an up set and the rest."""

import random
import unittest

from patchrooms.counts import near_sizes
from patchrooms.cutting import away_map, beside_hole_sizes, beside_ranks, held_patch, put_in, up_row
from patchrooms.holes import hole_basis, hole_sizes, long_row
from patchrooms.maps import is_exact, kernel_patch, map_space, maps_size, need_map
from patchrooms.moved import forward_patch, gathered_patch
from patchrooms.orders import part_order
from patchrooms.patches import cut_patch, level_patch, lone_patch, patch_breach
from patchrooms.splits import is_same
from patchrooms.tables import reduced
from patchrooms.tellings import tellings
from tests import slow, support
from tests.test_moved import NONE, flat, level, told


def rest_of_spots(order, spots):
    return tuple(x for x in range(order[0]) if x not in spots)


def is_between_by_words(order, spots):
    """Whether the spots are what some down set and some up set share, by trying all."""
    every = [set(part) for part in support.subsets(order[0])]
    above = [part for part in every if all(y in part for x, y in order[1] if x in part)]
    below = [part for part in every if all(x in part for x, y in order[1] if y in part)]
    return any(one & other == set(spots) for one in above for other in below)


def cutting(seed, count, springs=3):
    """(patch, an up set)."""
    rng = random.Random(seed)
    found = slow.made_patches(seed, count) + slow.patches(seed, count, springs)
    return [(patch, slow.random_ups(rng, patch[1], rng.randint(1, 3))) for patch in found]


class PutInTest(unittest.TestCase):

    def test_given(self):
        patch = (5, support.chain(2), (1, 2), (((2,), (3,)),))
        chain = support.chain(3)
        self.assertEqual(put_in(patch, chain, (1, 2)), (5, chain, (0, 1, 2), (((),), ((), ()), ((2,), (3,)))))
        self.assertEqual(put_in(patch, chain, (0, 1)), (5, chain, (1, 2, 0), (((2,), (3,)), (), ())))
        self.assertEqual(put_in(patch, support.chain(4), (1, 2))[2], (0, 1, 2, 0))
        self.assertEqual(put_in(patch, support.chain(2), (0, 1)), patch)
        crown = level(5, support.CROWN)
        self.assertEqual(put_in(cut_patch(crown, (2, 3)), support.CROWN, (2, 3)),
                         (5, support.CROWN, (0, 0, 1, 1), (((),),) * 4))
        self.assertEqual(put_in((7, slow.EMPTY, (), ()), support.CROWN, ()), level_patch(7, support.CROWN, 0))
        self.assertEqual(put_in(NONE, slow.EMPTY, ()), NONE)
        # What a down set and an up set share: a spot alone, two that are not comparable.
        self.assertEqual(put_in(level(3, (1, ())), support.chain(3), (1,)), lone_patch(3, support.chain(3), 1))
        self.assertEqual(put_in(level(3, (2, ())), support.DIAMOND, (1, 2))[2], (0, 1, 1, 0))
        self.assertEqual(put_in(level(3, (2, ())), support.ENN, (0, 3))[2], (1, 0, 0, 1))

    def test_by_words(self):
        seen = {True: 0, False: 0}
        rng = random.Random(1)
        for order in slow.SMALL * 2:
            for spots in rng.sample(support.subsets(order[0]), min(8, 2 ** order[0])):
                part = part_order(order, spots)
                patch = slow.made_patch(rng, rng.choice(support.PRIMES), part, 2)
                fits = is_between_by_words(order, spots)
                seen[fits] += 1
                if not fits:
                    self.assertEqual(support.refused(put_in, patch, order, spots), ("NotFit",))
                    continue
                found = put_in(patch, order, spots)
                self.assertTrue(support.is_plain(found))
                self.assertIsNone(patch_breach(found))
                self.assertEqual(found[:2], (patch[0], order))
                self.assertEqual(cut_patch(found, spots), patch)
                self.assertFalse(any(found[2][x] for x in range(order[0]) if x not in spots))
        self.assertGreater(min(seen.values()), 15)

    def test_errors(self):
        chain = support.chain(3)
        # Another order than that of the spots.
        for patch, order, spots in ((level(5, support.antichain(2)), chain, (1, 2)),
                                    (level(5, support.chain(2)), chain, (2,)), (level(5, chain), chain, (1, 2)),
                                    (level(5, support.order(2, (1, 0))), chain, (0, 1)), (NONE, chain, (0,)),
                                    (level(5, support.chain(2)), support.antichain(2), (0, 1)),
                                    (level(5, (1, ())), chain, ())):
            self.assertEqual(support.refused(put_in, patch, order, spots), ("NotFit",))
        # A spot between lacks.
        self.assertEqual(support.refused(put_in, level(5, support.chain(2)), chain, (0, 2)), ("NotFit",))
        self.assertEqual(support.refused(put_in, level(5, support.VEE), support.DIAMOND, (0, 1, 3)), ("NotFit",))
        self.assertEqual(support.refused(put_in, level(5, chain), support.DIAMOND, (0, 1, 3)), ("NotFit",))
        self.assertEqual(support.refused(put_in, level(5, support.chain(2)), support.DIAMOND, (0, 3)), ("NotFit",))

    def test_holes(self):
        rng = random.Random(2)
        unlike = 0
        for patch, spots in cutting(2, 80):
            order = patch[1]
            rest = rest_of_spots(order, spots)
            low, high = cut_patch(patch, rest), cut_patch(patch, spots)
            self.assertEqual(slow.trimmed(hole_sizes(put_in(low, order, rest))), slow.trimmed(hole_sizes(low)))
            unlike += slow.trimmed(hole_sizes(put_in(high, order, spots))) != slow.trimmed(hole_sizes(high))
            other = slow.made_patch(rng, patch[0], order, 1)
            # Maps of what is put in at a down set, and of what is held there.
            held = cut_patch(held_patch(other, rest), rest)
            if not support.refused(map_space, put_in(low, order, rest), other):
                self.assertEqual(maps_size(put_in(low, order, rest), other), maps_size(low, held))
        self.assertGreater(unlike, 10)

    def test_gathered_and_moved_forward(self):
        seen = 0
        for patch, spots in cutting(3, 80):
            order = patch[1]
            for part, move in ((spots, gathered_patch), (rest_of_spots(order, spots), forward_patch)):
                cut = cut_patch(patch, part)
                put, moved = put_in(cut, order, part), move(cut, order, part)
                self.assertEqual(put[2], moved[2])
                if not support.refused(is_same, put, moved):
                    seen += any(put[2])
                    self.assertTrue(is_same(put, moved))
        self.assertGreater(seen, 100)


class UpRowTest(unittest.TestCase):

    def test_given(self):
        patch = (5, support.chain(2), (1, 2), (((2,), (3,)),))
        self.assertEqual(up_row(patch, (1,)), ((((),), ((1, 0), (0, 1))), (((1,),), ())))
        self.assertEqual(up_row(patch, ()), ((((),), ((), ())), (((1,),), ((1, 0), (0, 1)))))
        self.assertEqual(up_row(patch, (0, 1)), ((((1,),), ((1, 0), (0, 1))), ((), ())))
        self.assertEqual(up_row(NONE, ()), ((), ()))
        self.assertEqual(up_row(level_patch(3, support.chain(2), 0), (1,)), (((), ()), ((), ())))

    def test_exact_rows(self):
        for patch, spots in cutting(4, 80):
            order = patch[1]
            rest = rest_of_spots(order, spots)
            one, third = put_in(cut_patch(patch, spots), order, spots), put_in(cut_patch(patch, rest), order, rest)
            found = up_row(patch, spots)
            self.assertTrue(support.is_plain(found))
            self.assertEqual(need_map(one, patch, found[0]), found[0])
            self.assertEqual(need_map(patch, third, found[1]), found[1])
            self.assertTrue(is_exact(one, patch, third, *found))
            self.assertIsNone(support.refused(long_row, one, patch, third, *found))
            for x, (first, second) in enumerate(zip(*found)):
                size = patch[2][x]
                self.assertEqual(first, support.identity(size) if x in spots else ((),) * size)
                self.assertEqual(second, () if x in spots else support.identity(size))

    def test_no_up_set(self):
        for order, spots in ((support.CROWN, (0,)), (support.CROWN, (0, 2)), (support.CROWN, (0, 1, 2)),
                             (support.chain(3), (0, 2)), (support.chain(3), (1,)), (support.VEE, (0,))):
            for size in (0, 1, 2):
                patch = level_patch(5, order, size)
                self.assertEqual(support.refused(up_row, patch, spots), ("NotFit",))
                self.assertEqual(support.refused(away_map, patch, spots), ("NotFit",))
        # No up set is told ahead of sizes that are too great.
        wide = slow.flat(2, support.order(6, (0, 1), (0, 2), (0, 3), (0, 4), (0, 5)), (0, 8, 8, 8, 8, 8))
        self.assertEqual(support.refused(away_map, wide, (0, 1, 2)), ("NotFit",))


def held_by_words(patch, spots, x):
    """The reduced basis of the tellings above x that tell zeros outside the spots."""
    upper = slow.upper(patch[1], x)
    size = sum(patch[2][y] for y in upper)
    every = [slow.combined(patch[0], factors, slow.units(size), size) for factors in slow.tellings(patch, upper)]
    outside = tuple(y for y in upper if y not in spots)
    cut = [slow.cut_column(patch, upper, outside, telling) for telling in every]
    return reduced(patch[0], tuple(slow.combined(patch[0], factors, every, size)
                                   for factors in slow.null_space(patch[0], cut)), size)


class HeldTest(unittest.TestCase):

    def test_given(self):
        chain = support.chain(2)
        patch = (5, chain, (3, 1), (((1, 2, 3),),))
        self.assertEqual(held_patch(patch, (0,)), (5, chain, (2, 0), ((),)))
        self.assertEqual(held_patch(patch, (0, 1))[2], (3, 1))
        self.assertEqual(held_patch(patch, ()), level_patch(5, chain, 0))
        self.assertEqual(held_patch(NONE, ()), NONE)
        crown = level(5, support.CROWN)
        self.assertEqual(held_patch(crown, (0, 1)), level_patch(5, support.CROWN, 0))
        self.assertEqual(held_patch(crown, (0, 1, 2, 3)), crown)
        self.assertEqual(held_patch(crown, (0, 1, 2)), (5, support.CROWN, (0, 0, 1, 0), (((),), (), ((),), ())))
        # Told by parts by the basis of whole tellings, of which the upper spot stands first.
        about = (5, support.order(2, (1, 0)), (2, 2), (((0, 1), (1, 0)),))
        self.assertEqual(held_patch(about, (0, 1)), (5, about[1], (2, 2), (((1, 0), (0, 1)),)))

    def test_by_words(self):
        seen = 0
        for patch, spots in cutting(5, 100):
            prime, order = patch[0], patch[1]
            rest = rest_of_spots(order, spots)
            bases = [held_by_words(patch, rest, x) if x in rest else () for x in range(order[0])]
            found = held_patch(patch, rest)
            self.assertTrue(support.is_plain(found))
            self.assertIsNone(patch_breach(found))
            self.assertEqual(found[:3], (prime, order, tuple(len(basis) for basis in bases)))
            for place, (x, y) in enumerate(order[1]):
                for k, telling in enumerate(bases[x]):
                    cut = slow.cut_column(patch, slow.upper(order, x), slow.upper(order, y), telling)
                    parts = tuple(line[k] for line in found[3][place])
                    self.assertEqual(slow.combined(prime, parts, bases[y], len(cut)), cut)
                    seen += any(parts)
        self.assertGreater(seen, 60)

    def test_no_bound(self):
        patch = slow.flat(2, support.antichain(5), (8,) * 5)
        self.assertEqual(held_patch(patch, (0, 1, 2, 3, 4)), patch)
        self.assertEqual(held_patch(slow.MORE, tuple(range(10)))[2], slow.MORE[2])


def ranks_by_words(patch, spots):
    """The ranks of the ways from holes beside the spots, to holes of the cut, and on."""
    prime, order, found = patch[0], patch[1], []
    whole = tuple(range(order[0]))

    def units_beside(k):
        """Loads of the degree k that tell zeros for rows that begin in the spots."""
        place, kept = 0, []
        size = slow.load_size(patch, k)
        for row in slow.rows(order, k):
            kept += [place + at for at in range(patch[2][row[-1]])] if row[0] not in spots else []
            place += patch[2][row[-1]]
        return [tuple(int(at == place) for at in range(size)) for place in kept]

    def closed_of(loads, k):
        size = slow.load_size(patch, k)
        return [slow.combined(prime, factors, loads, size)
                for factors in slow.null_space(prime, [slow.border(patch, k, load) for load in loads])]

    for k in range(slow.height(order) + 1):
        part = slow.cut(patch, spots)
        first = slow.rank_beside(prime, closed_of(units_beside(k), k), slow.borders(patch, k))
        closed = closed_of(slow.units(slow.load_size(patch, k)), k)
        second = slow.rank_beside(prime, [slow.cut_load(patch, whole, spots, k, load) for load in closed],
                                  slow.borders(part, k))
        # Loads of the cut, with zeros for all other rows: their borders tell zeros for rows that begin in the spots.
        lifted = []
        for factors in slow.closed(part, k):
            told_there = slow.told_by_rows(part, k, slow.combined(prime, factors, slow.units(slow.load_size(part, k)),
                                                                  slow.load_size(part, k)))
            at = {tuple(spots[x] for x in row): column for row, column in told_there.items()}
            load = tuple(entry for row in slow.rows(order, k) for entry in at.get(row, (0,) * patch[2][row[-1]]))
            lifted.append(slow.border(patch, k, load))
        known = [slow.border(patch, k, load) for load in units_beside(k)]
        found.append((first, second, slow.rank_beside(prime, lifted, known)))
    return tuple(found)


class BesideTest(unittest.TestCase):

    def test_given(self):
        for prime in support.PRIMES:
            crown = level(prime, support.CROWN)
            self.assertEqual(beside_hole_sizes(crown, ()), (1, 1))
            self.assertEqual(beside_hole_sizes(crown, (2, 3)), (0, 2))
            self.assertEqual(beside_hole_sizes(crown, (1, 2, 3)), (0, 1))
            self.assertEqual(beside_hole_sizes(crown, (0, 1, 2, 3)), (0, 0))
            self.assertEqual(beside_ranks(crown, (2, 3)), ((0, 1, 1), (1, 0, 0)))
            self.assertEqual(beside_ranks(crown, (1, 2, 3)), ((0, 1, 0), (1, 0, 0)))
            self.assertEqual(beside_ranks(crown, ()), ((1, 0, 0), (1, 0, 0)))
            self.assertEqual(beside_ranks(crown, (0, 1, 2, 3)), ((0, 1, 0), (0, 1, 0)))
            sphere = level(prime, support.DOUBLE_CROWN)
            self.assertEqual(beside_hole_sizes(sphere, (2, 3, 4, 5)), (0, 0, 2))
            self.assertEqual(beside_ranks(sphere, (2, 3, 4, 5)), ((0, 1, 0), (0, 0, 1), (1, 0, 0)))
        self.assertEqual(beside_hole_sizes(NONE, ()), ())
        self.assertEqual(beside_ranks(NONE, ()), ())
        nothing = level_patch(3, support.CROWN, 0)
        self.assertEqual(beside_hole_sizes(nothing, (2, 3)), (0, 0))
        self.assertEqual(beside_ranks(nothing, (2, 3)), ((0, 0, 0), (0, 0, 0)))

    def test_by_words(self):
        seen = 0
        for patch, spots in cutting(6, 100):
            found = beside_hole_sizes(patch, spots)
            self.assertTrue(support.is_plain(found))
            self.assertEqual(found, slow.hole_sizes_on(patch, lambda row: row[0] not in spots))
            ranks = beside_ranks(patch, spots)
            self.assertTrue(support.is_plain(ranks))
            self.assertEqual(ranks, ranks_by_words(patch, spots))
            seen += sum(line[2] for line in ranks)
        self.assertGreater(seen, 20)

    def test_long_row(self):
        for patch, spots in cutting(7, 80):
            beside, whole = beside_hole_sizes(patch, spots), hole_sizes(patch)
            cut = hole_sizes(cut_patch(patch, spots))
            self.assertEqual(slow.signed(beside), slow.signed(whole) - slow.signed(cut))
            cut += (0,) * (len(whole) - len(cut))
            ranks = [0] + [rank for line in beside_ranks(patch, spots) for rank in line]
            self.assertEqual([a + b for a, b in zip(ranks, ranks[1:])],
                             [size for sizes in zip(beside, whole, cut) for size in sizes])

    def test_near_sizes(self):
        for patch, _ in cutting(8, 80):
            order = patch[1]
            for x in range(order[0]):
                if not any(y == x for _, y in order[1]):
                    spots = tuple(y for y in range(order[0]) if y != x)
                    self.assertEqual(slow.trimmed(beside_hole_sizes(patch, spots)), slow.trimmed(near_sizes(patch, x)))

    def test_cut_to_an_up_set_with_each_spot_outside(self):
        rng = random.Random(9)
        for patch, spots in cutting(9, 80):
            order = patch[1]
            more = [x for x in range(order[0]) if x not in spots or rng.random() < 0.2]
            wide = tuple(y for y in range(order[0]) if any(slow.is_below(order, x, y) for x in more))
            shared = tuple(wide.index(x) for x in wide if x in spots)
            found = beside_hole_sizes(cut_patch(patch, wide), shared)
            self.assertEqual(slow.trimmed(found), slow.trimmed(beside_hole_sizes(patch, spots)))

    def test_degree_0(self):
        seen = 0
        for patch, spots in cutting(10, 120):
            if patch[1][0]:
                rest = rest_of_spots(patch[1], spots)
                size = beside_hole_sizes(patch, spots)[0]
                seen += size
                self.assertEqual(size, len(tellings(held_patch(patch, rest), tuple(range(patch[1][0])))))
        self.assertGreater(seen, 10)

    def test_bound(self):
        for patch in (slow.MORE, slow.MORE_2, level(2, support.chain(10))):
            n = patch[1][0]
            # Whichever loads are beside: all, few, none.
            for spots in ((), tuple(range(1, n)), tuple(range(n)), (n - 1,)):
                self.assertEqual(support.refused(beside_hole_sizes, patch, spots), ("TooMany", 160))
                self.assertEqual(support.refused(beside_ranks, patch, spots), ("TooMany", 160))
        self.assertEqual(beside_hole_sizes(slow.JUST, ()), (0, 128))
        self.assertEqual(beside_ranks(slow.JUST, tuple(range(5, 9))), ((0, 0, 32), (128, 0, 0)))


class AwayTest(unittest.TestCase):

    def test_given(self):
        crown = level(5, support.CROWN)
        self.assertEqual(away_map(crown, (2, 3)), (((1,), (1,)), ((1,), (1,)), ((1,),), ((1,),)))
        self.assertEqual(away_map(crown, (0, 1, 2, 3)), (((1,),),) * 4)
        self.assertEqual(away_map(crown, ()), ((),) * 4)
        self.assertEqual(away_map(crown, (1, 2, 3)), (((1,), (1,)), ((1,),), ((1,),), ((1,),)))
        patch = (5, support.chain(2), (1, 2), (((2,), (3,)),))
        self.assertEqual(away_map(patch, (1,)), (((2,), (3,)), ((1, 0), (0, 1))))
        self.assertEqual(away_map(NONE, ()), ())

    def test_by_words(self):
        seen = 0
        for patch, spots in cutting(11, 100):
            prime, order = patch[0], patch[1]
            part = cut_patch(patch, spots)
            on = told(forward_patch, part, order, spots)
            if on is None:
                self.assertIsNotNone(support.refused(away_map, patch, spots))
                continue
            found = away_map(patch, spots)
            self.assertTrue(support.is_plain(found))
            self.assertEqual(need_map(patch, on, found), found)
            for x in range(order[0]):
                higher = tuple(y for y in spots if slow.is_below(order, x, y))
                basis = tellings(part, tuple(spots.index(y) for y in higher))
                for k, unit in enumerate(slow.units(patch[2][x])):
                    column = tuple(entry for y in higher
                                   for entry in support.times(prime, support.lead_table(patch, x, y), unit))
                    parts = tuple(line[k] for line in found[x])
                    self.assertEqual(slow.combined(prime, parts, basis, len(column)), column)
                    seen += any(column)
            kernel = kernel_patch(patch, on, found)
            self.assertEqual(kernel[2], held_patch(patch, rest_of_spots(order, spots))[2])
        self.assertGreater(seen, 60)

    def test_bound(self):
        # Over a low spot stand all tellings above it.
        roof = slow.flat(3, support.VEE, (0, 5, 3))
        self.assertEqual(away_map(roof, (1, 2)), (((),) * 8, support.identity(5), support.identity(3)))
        nine = slow.flat(3, support.VEE, (0, 5, 4))
        self.assertEqual(support.refused(away_map, nine, (1, 2)), ("TooMany", 8))
        order = slow.layers(3, 2)
        self.assertEqual(support.refused(away_map, slow.flat(3, order, (0, 0, 0, 5, 4)), (3, 4)), ("TooMany", 8))
        self.assertEqual(support.refused(away_map, slow.flat(3, slow.layers(4, 2), (0, 0, 0, 0, 5, 4)), (4, 5)),
                         ("TooMany", 40))
        self.assertEqual(away_map(slow.flat(3, slow.layers(4, 2), (0, 0, 0, 0, 4, 4)), (4, 5))[0], ((),) * 8)
        # Loads on rows are not looked at; nor are they in the functions that tell no holes.
        self.assertIsNone(support.refused(away_map, slow.MORE, tuple(range(10))))
        self.assertIsNone(support.refused(up_row, slow.MORE, (8, 9)))
        self.assertIsNone(support.refused(held_patch, slow.MORE, tuple(range(7))))
        self.assertEqual(put_in(slow.MORE, slow.MORE[1], tuple(range(10))), slow.MORE)
        self.assertEqual(len(hole_basis(flat(3, 8, 1), 0)), 9)


if __name__ == "__main__":
    unittest.main()
