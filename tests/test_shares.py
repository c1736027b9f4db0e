"""[27], [28]: tables of what the up sets of a cover share, their order, finer covers."""

import itertools
import random
import unittest

from patchrooms.covers import cover_hole_sizes, is_good, least_cover, need_cover
from patchrooms.holes import hole_sizes
from patchrooms.orders import need_order
from patchrooms.patches import level_patch
from patchrooms.shares import finer_rank, is_finer, nerve_order, second_sizes, shared_sizes
from tests import slow, support
from tests.test_covers import (LEAST, NONE, THREE, border_by_words, closed_by_words, covered, exchanges, has_few, level,
                               lots, one_column, share, told_units)


def shared_by_words(patch, cover):
    found = []
    for j in range(slow.height(patch[1]) + 1):
        line = []
        for k in range(len(cover)):
            sizes = [slow.hole_sizes(slow.cut(patch, share(cover, lot))) + (0,) * 9 for lot in lots(cover, k + 1)]
            line.append(sum(size[j] for size in sizes))
        found.append(tuple(line))
    return tuple(found)


def second_by_words(patch, cover):
    """Ranks of loads of loads with the border 0, those being told apart that differ by more than borders."""
    prime, found = patch[0], []
    for j in range(slow.height(patch[1]) + 1):
        known, closed = [], []
        for k in range(len(cover) + 1):
            parts = {lot: slow.cut(patch, share(cover, lot)) for lot in lots(cover, k + 1)}
            sizes = {lot: slow.load_size(part, j) for lot, part in parts.items()}

            def put(lot, load, sizes=sizes):
                return tuple(entry for other, size in sizes.items()
                             for entry in (load if other == lot else (0,) * size))
            known.append([put(lot, load) for lot, part in parts.items() for load in slow.borders(part, j)])
            closed.append([(lot, slow.combined(prime, factors, slow.units(sizes[lot]), sizes[lot]))
                           for lot, part in parts.items() for factors in slow.closed(part, j)])
        ranks, rooms = [0], []
        for k in range(len(cover)):
            made = []
            for lot, load in closed[k]:
                column = ()
                for longer in lots(cover, k + 2):
                    less = [longer[:at] + longer[at + 1:] for at in range(k + 2)]
                    if lot in less:
                        cut = slow.cut_load(patch, share(cover, lot), share(cover, longer), j, load)
                        column += tuple((-1) ** less.index(lot) * entry % prime for entry in cut)
                    else:
                        column += (0,) * slow.load_size(slow.cut(patch, share(cover, longer)), j)
                made.append(column)
            rooms.append(len(closed[k]) - support.rank_of(prime, known[k]))
            ranks.append(slow.rank_beside(prime, made, known[k + 1]))
        found.append(tuple(room - ranks[k] - ranks[k + 1] for k, room in enumerate(rooms)))
    return tuple(found)


def signed_table(table):
    return sum((-1) ** (j + k) * size for j, line in enumerate(table) for k, size in enumerate(line))


class TablesTest(unittest.TestCase):

    def test_given(self):
        crown = level(3, support.CROWN)
        self.assertEqual(shared_sizes(crown, LEAST), ((2, 2), (0, 0)))
        self.assertEqual(second_sizes(crown, LEAST), ((1, 1), (0, 0)))
        whole = ((0, 1, 2, 3),) * 2
        self.assertEqual(shared_sizes(crown, whole), ((2, 1), (2, 1)))
        self.assertEqual(second_sizes(crown, whole), ((1, 0), (1, 0)))
        sphere = level(3, support.DOUBLE_CROWN)
        cover = least_cover(support.DOUBLE_CROWN)
        self.assertEqual(shared_sizes(sphere, cover), ((2, 1), (0, 1), (0, 0)))
        self.assertEqual(second_sizes(sphere, cover), ((1, 0), (0, 1), (0, 0)))
        self.assertEqual(shared_sizes(level(2, support.HEXAGON), THREE), ((3, 3, 0), (0, 0, 0)))
        self.assertEqual(second_sizes(level(2, support.HEXAGON), THREE), ((1, 1, 0), (0, 0, 0)))
        for function in (shared_sizes, second_sizes):
            self.assertEqual(function(NONE, ((),)), ())
            self.assertEqual(function(NONE, ((), ())), ())
            self.assertEqual(function(level_patch(2, support.CROWN, 0), LEAST), ((0, 0), (0, 0)))
            self.assertEqual(function(crown, ((0, 1, 2, 3),)), ((1,), (1,)))
        self.assertEqual(shared_sizes(crown, ((0, 1, 2, 3), ())), ((1, 0), (1, 0)))
        self.assertEqual(shared_sizes(crown, ((0, 1, 2, 3),) * 5), ((5, 10, 10, 5, 1), (5, 10, 10, 5, 1)))
        self.assertEqual(second_sizes(crown, ((0, 1, 2, 3),) * 5), ((1, 0, 0, 0, 0), (1, 0, 0, 0, 0)))

    def test_by_words(self):
        above = 0
        for patch, cover in covered(21, 90, 4):
            for function, by_words in ((shared_sizes, shared_by_words), (second_sizes, second_by_words)):
                found = function(patch, cover)
                self.assertTrue(support.is_plain(found))
                self.assertEqual(found, by_words(patch, cover))
                above += any(any(line) for line in found[1:])
        self.assertGreater(above, 30)

    def test_a_hole_cut_to_another_one(self):
        # Two spots below three have two holes; one spot below them all has none.
        for prime in support.PRIMES:
            patch = level(prime, slow.layers(1, 1, 2, 3))
            cover = (tuple(range(1, 7)), tuple(range(7)), tuple(range(2, 7)))
            self.assertEqual(second_sizes(patch, cover), second_by_words(patch, cover))
            cover = (tuple(range(2, 7)), tuple(range(7)))
            self.assertEqual(shared_sizes(patch, cover), ((2, 1), (2, 2), (0, 0), (0, 0)))
            self.assertEqual(second_sizes(patch, cover), ((1, 0), (0, 0), (0, 0), (0, 0)))

    def test_good_covers(self):
        seen = set()
        for patch, cover in covered(22, 120, 4):
            good = not any(any(line) for line in shared_sizes(patch, cover)[1:])
            self.assertIs(is_good(patch, cover), good)
            seen.add(good)
        self.assertEqual(len(seen), 2)

    def test_entry_0_is_cover_hole_sizes(self):
        for patch, cover in covered(23, 80, 5):
            if patch[1][0]:
                self.assertEqual(second_sizes(patch, cover)[0], cover_hole_sizes(patch, cover))

    def test_sums(self):
        for patch, cover in covered(24, 80, 5):
            sizes = hole_sizes(patch)
            table = second_sizes(patch, cover)
            for part in (table, shared_sizes(patch, cover)):
                self.assertEqual(signed_table(part), slow.signed(sizes))
            for n, size in enumerate(sizes):
                total = sum(line[n - j] for j, line in enumerate(table) if 0 <= n - j < len(line))
                self.assertLessEqual(size, total)
                if len(cover) <= 2:
                    self.assertEqual(size, total)

    def test_one_or_two_up_sets(self):
        above = 0
        for patch, cover in covered(25, 150, 2):
            sizes = hole_sizes(patch)
            table = second_sizes(patch, cover)
            for n, size in enumerate(sizes):
                total = sum(line[n - j] for j, line in enumerate(table) if 0 <= n - j < len(line))
                above += n > 0 and size > 0
                if len(cover) <= 2:
                    self.assertEqual(size, total)
        self.assertGreater(above, 20)

    def test_bound(self):
        for function in (shared_sizes, second_sizes):
            for patch in (slow.MORE, slow.MORE_2):
                whole = tuple(range(patch[1][0]))
                self.assertEqual(support.refused(function, patch, (whole,)), ("TooMany", 160))
            self.assertEqual(function(slow.JUST, (tuple(range(9)),)), ((0,), (128,)))
            # Also where all cuts have few loads.
            order = support.order(16, *[(x, y) for x in range(5) for y in range(5, 16)])
            patch = slow.flat(2, order, (0,) * 5 + (3,) * 11)
            cover = least_cover(order)
            self.assertTrue(all(slow.most_loads(slow.cut(patch, spots)) <= 160 for spots in cover))
            self.assertEqual(support.refused(function, patch, cover), ("TooMany", 160))
        # Tellings of covers have no bound here.
        patch = slow.flat(2, support.antichain(3), (8, 8, 8))
        cover = ((0, 1, 2),) * 5
        self.assertEqual(support.refused(cover_hole_sizes, patch, cover), ("TooMany", 160))
        self.assertEqual(shared_sizes(patch, cover), ((120, 240, 240, 120, 24),))
        self.assertEqual(second_sizes(patch, cover), ((24, 0, 0, 0, 0),))


class NerveTest(unittest.TestCase):

    def test_given(self):
        self.assertEqual(nerve_order(support.CROWN, LEAST), (3, ((0, 2), (1, 2))))
        self.assertEqual(nerve_order(support.HEXAGON, THREE),
                         (6, ((0, 3), (0, 4), (1, 3), (1, 5), (2, 4), (2, 5))))
        self.assertEqual(nerve_order(support.CROWN, ((0, 1, 2, 3),)), (1, ()))
        self.assertEqual(nerve_order(support.CROWN, ((), (0, 1, 2, 3), ())), (1, ()))
        self.assertEqual(nerve_order(slow.EMPTY, ((), ())), (0, ()))
        whole = ((0,),) * 3
        self.assertEqual(nerve_order((1, ()), whole),
                         (7, ((0, 3), (0, 4), (0, 6), (1, 3), (1, 5), (1, 6), (2, 4), (2, 5), (2, 6), (3, 6), (4, 6),
                              (5, 6))))
        self.assertEqual(nerve_order(support.antichain(4), ((0, 1), (1, 2), (3,), (2,))),
                         (6, ((0, 4), (1, 4), (1, 5), (3, 5))))

    def test_by_words(self):
        rng = random.Random(26)
        for order in slow.ORDERS * 8:
            cover = slow.random_cover(rng, order)
            found = [lot for many in range(1, 6) for lot in lots(cover, many) if share(cover, lot)]
            if len(found) > 16:
                self.assertEqual(support.refused(nerve_order, order, cover), ("TooMany", 16))
                continue
            pairs = [(a, b) for a, b in itertools.permutations(range(len(found)), 2) if set(found[a]) < set(found[b])]
            result = nerve_order(order, cover)
            self.assertTrue(support.is_plain(result))
            self.assertEqual(need_order(result), (len(found), tuple(sorted(pairs))))

    def test_bound(self):
        order = support.antichain(2)
        just = nerve_order(order, ((0,),) * 4 + ((1,),))
        self.assertEqual(just[0], 16)
        # The lots of one up set more: alone, and with the first one.
        self.assertEqual(support.refused(nerve_order, order, ((0, 1),) + ((0,),) * 3 + ((1,),)), ("TooMany", 16))
        self.assertEqual(support.refused(nerve_order, order, ((0, 1),) * 5), ("TooMany", 16))
        self.assertEqual(nerve_order(order, ((0, 1),) * 4)[0], 15)

    def test_holes_of_both_orders(self):
        rng = random.Random(27)
        seen = 0
        orders = slow.ORDERS + slow.HOLED
        for order in orders * 4:
            cover = slow.random_cover(rng, order, 4)
            if rng.random() < 0.5 and not support.refused(least_cover, order):
                cover = least_cover(order)
            for prime in (2, 3):
                patch = level(prime, order)
                parts = [slow.cut(patch, share(cover, lot)) for many in range(1, 6) for lot in lots(cover, many)
                         if share(cover, lot)]
                if all(slow.trimmed(slow.hole_sizes(part)) == (1,) for part in parts):
                    sizes = hole_sizes(patch)
                    seen += any(sizes[1:])
                    self.assertEqual(slow.trimmed(sizes),
                                     slow.trimmed(hole_sizes(level(prime, nerve_order(order, cover)))))
        self.assertGreater(seen, 5)


def finer_pairs(seed, count, most=4):
    """(patch, one, other), one finer than other, neither with too many tellings."""
    rng = random.Random(seed)
    found = []
    for patch, other in covered(seed, count, most):
        one = []
        for wide in other:
            for _ in range(rng.randint(0, 2)):
                lows = [x for x in wide if rng.random() < 0.4]
                one.append(tuple(y for y in wide if any(slow.is_below(patch[1], x, y) for x in lows)))
        lost = [x for x in range(patch[1][0]) if not any(x in spots for spots in one)]
        for wide in other:
            more = tuple(y for y in wide if any(slow.is_below(patch[1], x, y) for x in wide if x in lost))
            if more:
                one.append(more)
        if rng.random() < 0.3:
            one = list(other)
        rng.shuffle(one)
        if 1 <= len(one) <= 5 and has_few(patch, tuple(one)):
            need_cover(patch[1], tuple(one))
            found.append((patch, tuple(one), other))
    return found


def finer_by_words(patch, one, other, k):
    if k >= len(one) or k >= len(other):
        return 0
    prime, made = patch[0], []
    numbers = [min(i for i, wide in enumerate(other) if set(spots) <= set(wide)) for spots in one]
    for told in closed_by_words(patch, other, k):
        column = ()
        for lot in lots(one, k + 1):
            found = [numbers[number] for number in lot]
            wide = tuple(sorted(found))
            if len(set(found)) < len(found):
                column += (0,) * sum(patch[2][x] for x in share(one, lot))
            else:
                cut = slow.cut_column(patch, share(other, wide), share(one, lot), told[wide])
                column += tuple((-1) ** exchanges(found) * entry % prime for entry in cut)
        made.append(column)
    known = [] if k == 0 else [one_column(border_by_words(patch, one, k - 1, told))
                               for told in told_units(patch, one, k - 1)]
    return slow.rank_beside(prime, made, known)


class FinerTest(unittest.TestCase):

    def test_is_finer(self):
        order, whole = support.CROWN, (0, 1, 2, 3)
        for one, other, expected in ((LEAST, (whole,), True), ((whole,), LEAST, False), (LEAST, LEAST, True),
                                     (LEAST, LEAST[::-1], True), (LEAST + ((),), LEAST, True),
                                     (LEAST + (whole,), LEAST, False), (LEAST, LEAST + (whole,), True),
                                     (((2,), (3,)) + LEAST, LEAST, True), (((),), ((),), True)):
            self.assertIs(is_finer(order, one, other), expected)
        # On both of two up sets is not enough.
        self.assertIs(is_finer(support.antichain(3), ((0, 1, 2),), ((0, 1), (1, 2))), False)
        self.assertIs(is_finer(slow.EMPTY, ((), ()), ((),)), True)

    def test_is_finer_by_words(self):
        rng = random.Random(28)
        seen = set()
        for order in slow.ORDERS * 8:
            one, other = slow.random_cover(rng, order, 3), slow.random_cover(rng, order, 3)
            expected = all(any(set(spots) <= set(wide) for wide in other) for spots in one)
            self.assertIs(is_finer(order, one, other), expected)
            seen.add(expected)
        self.assertEqual(len(seen), 2)

    def test_given(self):
        crown, whole = level(3, support.CROWN), (0, 1, 2, 3)
        self.assertEqual([finer_rank(crown, LEAST, LEAST, k) for k in range(5)], [1, 1, 0, 0, 0])
        self.assertEqual([finer_rank(crown, LEAST, LEAST[::-1], k) for k in range(5)], [1, 1, 0, 0, 0])
        self.assertEqual([finer_rank(crown, LEAST, (whole,), k) for k in range(5)], [1, 0, 0, 0, 0])
        self.assertEqual([finer_rank(crown, LEAST + ((2,), ()), LEAST, k) for k in range(5)], [1, 1, 0, 0, 0])
        self.assertEqual([finer_rank(NONE, ((), ()), ((),), k) for k in range(5)], [0] * 5)
        self.assertEqual(finer_rank(level_patch(3, support.CROWN, 3), LEAST, LEAST, 1), 3)

    def test_by_words(self):
        seen = set()
        for patch, one, other in finer_pairs(29, 150):
            for k in range(5):
                found = finer_rank(patch, one, other, k)
                self.assertIs(type(found), int)
                self.assertEqual(found, finer_by_words(patch, one, other, k))
                seen |= {(k, one != other)} if found else set()
        self.assertLessEqual({(0, True), (1, True)}, seen)

    def test_entries_of_cover_hole_sizes(self):
        seen = 0
        for patch, one, other in finer_pairs(30, 150):
            good = is_good(patch, one) and is_good(patch, other)
            sizes = cover_hole_sizes(patch, other) + (0,) * 5
            for k in range(5):
                if k <= 1 or good:
                    seen += k > 0 and sizes[k] > 0
                    self.assertEqual(finer_rank(patch, one, other, k), sizes[k])
        self.assertGreater(seen, 15)

    def test_degree_2(self):
        # The spots above each of four corners, and two such finer covers.
        corners = [frozenset(c) for size in (1, 2, 3) for c in itertools.combinations(range(4), size)]
        order = (14, tuple((x, y) for x in range(14) for y in range(14) if corners[x] < corners[y]))
        cover = least_cover(order)
        for prime in support.PRIMES:
            patch = level(prime, order)
            for one in (cover, cover[::-1], (cover[1], cover[0]) + cover[2:], ((),) + cover[1:] + cover[:1]):
                self.assertEqual([finer_rank(patch, one, cover, k) for k in range(5)], [1, 0, 1, 0, 0])
        # Holes of a cover that are lost on the way to a finer one.
        patch = level(3, slow.layers(3, 2))
        other = ((0, 1, 3, 4), (0, 2, 3, 4), (1, 2, 3, 4))
        self.assertEqual(cover_hole_sizes(patch, other), (1, 0, 1))
        self.assertEqual(finer_rank(patch, least_cover(patch[1]), other, 2), 0)
        self.assertEqual(finer_rank(patch, other, other, 2), 1)

    def test_errors(self):
        crown, whole = level(3, support.CROWN), (0, 1, 2, 3)
        for k in range(5):
            self.assertEqual(support.refused(finer_rank, crown, (whole,), LEAST, k), ("NotFiner",))
        spots = tuple(range(3))
        more = slow.flat(2, support.antichain(3), (8, 8, 1))
        for k in range(5):
            # Too many tellings of one, of other, of both.
            for one, other in (((spots,) * 5, (spots,)), ((spots,), (spots,) * 5), ((spots,) * 5, (spots,) * 5)):
                self.assertEqual(support.refused(finer_rank, more, one, other, k), ("TooMany", 160))
            # Not finer: this is told ahead, whichever has too many.
            for one, other in (((spots,) * 5, ((0, 1), (2,))), ((spots,), ((0,), (1,), (2,), (0, 1), (1, 2)))):
                self.assertEqual(support.refused(finer_rank, more, one, other, k), ("NotFiner",))
        just = slow.flat(2, support.antichain(3), (8, 8, 0))
        self.assertEqual([finer_rank(just, (spots,) * 5, (spots,) * 5, k) for k in range(3)], [16, 0, 0])
        # Loads on rows are not looked at.
        whole = (tuple(range(10)),)
        self.assertEqual(finer_rank(level(2, support.chain(10)), whole, whole, 0), 1)


if __name__ == "__main__":
    unittest.main()
