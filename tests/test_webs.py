"""[55], [56]: webs of places and ties."""

import itertools
import random
import unittest

from patchrooms.holes import hole_size, hole_sizes
from patchrooms.orders import need_order
from patchrooms.patches import level_patch, need_patch
from patchrooms.webs import (apart_count, border_table, flow_count, flow_patch, least_load, tie_kinds, web_order,
                             web_patch)
from tests import slow, support

NONE = (0, ())
LINE = (3, ((0, 1), (1, 2)))
TRIANGLE = (3, ((0, 1), (0, 2), (1, 2)))
SQUARE = (4, ((0, 1), (0, 3), (1, 2), (2, 3)))
FULL = (4, tuple(itertools.combinations(range(4), 2)))
# Places and ties just 16 together.
ROUND_8 = (8, ((0, 1), (0, 7), (1, 2), (2, 3), (3, 4), (4, 5), (5, 6), (6, 7)))
TEN_TIES = (6, tuple(itertools.combinations(range(6), 2))[:10])
FIVE = (5, tuple(itertools.combinations(range(5), 2)))
WEBS = (NONE, (1, ()), (3, ()), (8, ()), (2, ((0, 1),)), LINE, TRIANGLE, SQUARE, FULL, ROUND_8, TEN_TIES, FIVE,
        (4, ((0, 3),)), (5, ((0, 1), (2, 4), (3, 4))), (6, ((0, 1), (0, 2), (1, 2), (3, 4), (3, 5), (4, 5))))


def random_web_patch(rng, prime, web, most=2, great=2):
    """(patch, web, sizes, ends): any tables at all."""
    n, ties = web
    while True:
        sizes = tuple([rng.randint(0, most) for _ in range(n)] + [rng.randint(0, great) for _ in ties])
        if sum(sizes) <= 40:
            break
    ends = tuple(tuple(support.random_table(rng, prime, sizes[n + k], sizes[x]) for x in tie)
                 for k, tie in enumerate(ties))
    return web_patch(prime, web, sizes, ends), web, sizes, ends


def samples(seed, count, most=2, great=2, webs=WEBS):
    rng = random.Random(seed)
    return [random_web_patch(rng, support.PRIMES[k % 6], rng.choice(webs), most, great) for k in range(count)]


def border_by_words(patch, web, load):
    """At each tie what the greater end's table makes of the load less what the lesser one's does."""
    n, ties = web
    told, found = support.split_at(patch[2][:n], load), ()
    for k, (x, y) in enumerate(ties):
        more, less = (support.times(patch[0], support.lead_table(patch, z, n + k), told[z]) for z in (y, x))
        found += slow.added(patch[0], more, less, -1)
    return found


def at_ties(patch, web, column):
    return support.split_at(patch[2][web[0]:], column)


def places_size(patch, web):
    return sum(patch[2][:web[0]])


def ties_size(patch, web):
    return sum(patch[2][web[0]:])


class WebTest(unittest.TestCase):

    def test_orders(self):
        self.assertEqual(web_order(NONE), (0, ()))
        self.assertEqual(web_order((3, ())), (3, ()))
        self.assertEqual(web_order((2, ((0, 1),))), support.ROOF)
        self.assertEqual(web_order(TRIANGLE), (6, ((0, 3), (0, 4), (1, 3), (1, 5), (2, 4), (2, 5))))
        self.assertEqual(web_order(ROUND_8)[0], 16)
        for web in WEBS:
            found = web_order(web)
            self.assertTrue(support.is_plain(found))
            self.assertEqual(need_order(found), found)
            self.assertEqual(found, (web[0] + len(web[1]), tuple(sorted(
                (x, web[0] + k) for k, tie in enumerate(web[1]) for x in tie))))

    def test_patches(self):
        self.assertEqual(web_patch(5, LINE, (1, 2, 0, 1, 2), ((((3,),), ((1, 4),)), (((1, 0), (0, 1)), ((), ())))),
                         (5, (5, ((0, 3), (1, 3), (1, 4), (2, 4))), (1, 2, 0, 1, 2),
                          (((3,),), ((1, 4),), ((1, 0), (0, 1)), ((), ()))))
        self.assertEqual(web_patch(7, NONE, (), ()), (7, (0, ()), (), ()))
        self.assertEqual(web_patch(7, (2, ()), (3, 8), ()), (7, (2, ()), (3, 8), ()))
        # The tables of a place stand by the places, those of a tie by the ties.
        crossed = (3, ((0, 2), (1, 2)))
        self.assertEqual(web_patch(7, crossed, (1,) * 5, ((((1,),), ((2,),)), (((3,),), ((4,),))))[3],
                         (((1,),), ((3,),), ((2,),), ((4,),)))

    def test_patches_by_words(self):
        for patch, web, sizes, ends in samples(1, 60):
            self.assertTrue(support.is_plain(patch))
            self.assertEqual(need_patch(patch), patch)
            self.assertEqual(patch[1:3], (web_order(web), sizes))
            for k, (tie, both) in enumerate(zip(web[1], ends)):
                for x, table in zip(tie, both):
                    self.assertEqual(support.lead_table(patch, x, web[0] + k), table)

    def test_bound(self):
        rng = random.Random(2)
        for sizes, limit in (((8, 8, 8, 8, 8), None), ((8, 8, 8, 8, 7), None), ((8, 8, 8, 8, 8, 0), None),
                             ((8, 8, 8, 8, 8, 1), 40), ((8,) * 8, 40)):
            web = (len(sizes) - 1, ((0, 1),))
            ends = ((support.random_table(rng, 3, sizes[-1], sizes[0]), support.random_table(rng, 3, sizes[-1],
                                                                                           sizes[1])),)
            self.assertEqual(support.refused(web_patch, 3, web, sizes, ends), limit and ("TooMany", limit))


class BorderTest(unittest.TestCase):

    def test_given(self):
        patch = web_patch(5, LINE, (1, 2, 1, 1, 2), ((((3,),), ((1, 4),)), (((1, 0), (0, 1)), ((2,), (3,)))))
        self.assertEqual(border_table(patch), ((2, 1, 4, 0), (0, 4, 0, 2), (0, 0, 4, 3)))
        # Without ties it has no lines, without places lines without entries.
        self.assertEqual(border_table(web_patch(5, (2, ()), (1, 2), ())), ())
        self.assertEqual(border_table(web_patch(5, NONE, (), ())), ())
        self.assertEqual(border_table(web_patch(5, (2, ((0, 1),)), (0, 0, 3), ((((),) * 3,) * 2,))), ((), (), ()))
        self.assertEqual(border_table(web_patch(5, (2, ((0, 1),)), (1, 2, 0), (((), ()),))), ())

    def test_by_words(self):
        rng, seen = random.Random(3), 0
        for patch, web, _, _ in samples(3, 90, 3, 3):
            table = border_table(patch)
            self.assertTrue(support.is_plain(table))
            self.assertEqual(len(table), ties_size(patch, web))
            self.assertTrue(all(len(line) == places_size(patch, web) for line in table))
            for _ in range(3):
                load = support.random_column(rng, patch[0], places_size(patch, web))
                self.assertEqual(support.times(patch[0], table, load), border_by_words(patch, web, load))
                seen += any(border_by_words(patch, web, load))
        self.assertGreater(seen, 90)

    def test_holes(self):
        seen = 0
        for patch, web, _, _ in samples(4, 90, 3, 3):
            table, size = border_table(patch), places_size(patch, web)
            rank = support.rank_of(patch[0], table)
            n = patch[1][0]
            told = {tuple(telling[:size]) for telling in slow.tellings(patch, tuple(range(n)))}
            self.assertEqual(len(told), size - rank)
            for telling in told:
                self.assertFalse(any(support.times(patch[0], table, telling)))
            if slow.most_loads(patch) <= 160 and n:
                self.assertEqual(hole_size(patch, 0), size - rank)
                self.assertEqual(hole_size(patch, 1), ties_size(patch, web) - rank)
                seen += hole_size(patch, 1) > 0
        self.assertGreater(seen, 30)

    def test_least_load(self):
        rng, seen = random.Random(5), [0, 0]
        for patch, web, _, _ in samples(5, 120, 3, 3):
            prime, many = patch[0], ties_size(patch, web)
            borders = [border_by_words(patch, web, unit) for unit in slow.units(places_size(patch, web))]
            rank = support.rank_of(prime, borders)
            one = support.random_column(rng, prime, many)
            for other in (support.random_column(rng, prime, many),
                          slow.added(prime, one, slow.some_of(rng, prime, borders, many))):
                same = support.rank_of(prime, borders + [slow.added(prime, one, other, -1)]) == rank
                rests = least_load(patch, one), least_load(patch, other)
                self.assertTrue(support.is_plain(rests))
                self.assertEqual([len(rest) for rest in rests], [many - rank] * 2)
                self.assertEqual(rests[0] == rests[1], same)
                seen[same] += 1
            # The rest stands at the free places, 0 elsewhere, and is the same hole.
            self.assertEqual(least_load(patch, (0,) * many), (0,) * (many - rank))
        self.assertGreater(min(seen), 30)

    def test_least_load_given(self):
        level = level_patch(5, web_order(TRIANGLE), 1)
        # Borders are sums of (4, 4, 0), (1, 0, 4) and (0, 1, 1): first entries lead, the last one is free.
        self.assertEqual(least_load(level, (1, 2, 3)), (2,))
        self.assertEqual(least_load(level, (1, 3, 2)), (0,))
        self.assertEqual(least_load(level_patch(5, (2, ()), 1), ()), ())
        self.assertEqual(least_load(web_patch(5, (2, ((0, 1),)), (0, 0, 2), ((((),) * 2,) * 2,)), (3, 4)), (3, 4))

    def test_level_patches(self):
        for web in WEBS:
            n, ties = web
            tied = {x: {x} for x in range(n)}
            for x, y in ties:
                both = tied[x] | tied[y]
                for z in both:
                    tied[z] = both
            pieces = len({tuple(sorted(piece)) for piece in tied.values()})
            for prime in support.PRIMES:
                sizes = hole_sizes(level_patch(prime, web_order(web), 1))
                if not n:
                    self.assertEqual(sizes, ())
                elif not ties:
                    self.assertEqual(sizes, (pieces,))
                else:
                    self.assertEqual(sizes, (pieces, len(ties) - n + pieces))


class TiesTest(unittest.TestCase):

    def test_kinds_given(self):
        level = level_patch(3, web_order((4, ((0, 1), (0, 2), (1, 2), (2, 3)))), 1)
        self.assertEqual(tie_kinds(level), ((0, 1), (0, 1), (0, 1), (1, 0)))
        self.assertEqual(tie_kinds(level_patch(3, web_order(LINE), 2)), ((2, 0), (2, 0)))
        self.assertEqual(tie_kinds(level_patch(3, (3, ()), 1)), ())
        self.assertEqual(tie_kinds((3, (0, ()), (), ())), ())
        self.assertEqual(tie_kinds(web_patch(5, (2, ((0, 1),)), (1, 2, 0), (((), ()),))), ((0, 0),))

    def test_kinds_by_cuts(self):
        seen = 0
        for patch, web, sizes, _ in samples(6, 90, 3, 3):
            kinds = tie_kinds(patch)
            self.assertTrue(support.is_plain(kinds))
            self.assertEqual(len(kinds), len(web[1]))
            if slow.most_loads(patch) > 160:
                continue
            for k, kind in enumerate(kinds):
                less = slow.cut(patch, tuple(x for x in range(patch[1][0]) if x != web[0] + k))
                self.assertEqual(kind, (hole_size(less, 0) - hole_size(patch, 0),
                                        hole_size(patch, 1) - hole_size(less, 1)))
                self.assertEqual(sum(kind), sizes[web[0] + k])
                self.assertTrue(min(kind) >= 0)
                seen += min(kind) > 0
        self.assertGreater(seen, 10)

    def test_flow_patch(self):
        patch = web_patch(5, LINE, (1, 2, 0, 1, 2), ((((3,),), ((1, 4),)), (((1, 0), (0, 1)), ((), ()))))
        self.assertEqual(flow_patch(patch, (True, True)), patch)
        self.assertEqual(flow_patch(patch, (False, True)), patch[:2] + ((1, 2, 0, 0, 2), ((), (), patch[3][2],
                                                                                        patch[3][3])))
        self.assertEqual(flow_patch(patch, (True, False)), patch[:2] + ((1, 2, 0, 1, 0), patch[3][:2] + ((), ())))
        self.assertEqual(flow_patch(patch, (False, False)), patch[:2] + ((1, 2, 0, 0, 0), ((),) * 4))
        self.assertEqual(flow_patch((5, (3, ()), (1, 2, 3), ()), ()), (5, (3, ()), (1, 2, 3), ()))
        rng = random.Random(7)
        for patch, web, sizes, _ in samples(7, 60):
            kept = tuple(rng.random() < 0.5 for _ in web[1])
            found = flow_patch(patch, kept)
            self.assertTrue(support.is_plain(found))
            self.assertEqual(need_patch(found), found)
            self.assertEqual(found[1], patch[1])
            for x in range(patch[1][0]):
                self.assertEqual(found[2][x], 0 if x >= web[0] and not kept[x - web[0]] else sizes[x])
            for (_, y), table, before in zip(patch[1][1], found[3], patch[3]):
                self.assertEqual(table, before if kept[y - web[0]] else ())


class CountsTest(unittest.TestCase):

    def apart_by_words(self, patch, web):
        found = 0
        for load in support.all_columns(patch[0], places_size(patch, web)):
            found += all(any(column) for column in at_ties(patch, web, border_by_words(patch, web, load)))
        return found

    def flows_by_words(self, patch, web):
        table = border_table(patch)
        found = 0
        for factors in support.all_columns(patch[0], ties_size(patch, web)):
            total = slow.combined(patch[0], factors, table, places_size(patch, web))
            found += not any(total) and all(any(part) for part in at_ties(patch, web, factors))
        return found

    def few(self, seed, count):
        webs = tuple(web for web in WEBS if web[0] <= 4)
        found = samples(seed, count, 2, 2, webs) + samples(seed, count // 2, 1, 1)
        rng = random.Random(seed)
        for k in range(count):
            # Level patches, in other bases, and ties all of the size 1.
            web = rng.choice(webs)
            patch = level_patch(support.PRIMES[k % 6], web_order(web), 1)
            found.append((slow.turned_bases(rng, patch)[0], web, patch[2], None))
        return found

    def test_apart_by_going_through_all(self):
        seen = 0
        for patch, web, sizes, _ in self.few(8, 90):
            if patch[0] ** places_size(patch, web) <= 2500:
                found = apart_count(patch)
                self.assertTrue(support.is_plain(found))
                self.assertEqual(found, self.apart_by_words(patch, web))
                if 0 in sizes[web[0]:]:
                    self.assertEqual(found, 0)
                seen += found > 0 and len(web[1]) > 1
        self.assertGreater(seen, 25)

    def test_flows_by_going_through_all(self):
        seen = 0
        for patch, web, sizes, _ in self.few(9, 90):
            if patch[0] ** ties_size(patch, web) <= 2500:
                found = flow_count(patch)
                self.assertTrue(support.is_plain(found))
                self.assertEqual(found, self.flows_by_words(patch, web))
                if 0 in sizes[web[0]:]:
                    self.assertEqual(found, 0)
                seen += found > 0 and len(web[1]) > 1
        self.assertGreater(seen, 15)

    def test_by_choices(self):
        for patch, web, _, _ in samples(10, 40, 2, 2):
            if slow.most_loads(patch) > 160:
                continue
            apart, flows = 0, 0
            for kept in itertools.product((True, False), repeat=min(len(web[1]), 6)):
                if len(web[1]) <= 6:
                    part = flow_patch(patch, kept)
                    apart += (-1) ** sum(kept) * patch[0] ** hole_size(part, 0)
                    flows += (-1) ** (len(kept) - sum(kept)) * patch[0] ** hole_size(part, 1)
            if len(web[1]) <= 6:
                self.assertEqual((apart_count(patch), flow_count(patch)), (apart, flows))

    def test_colours_and_flows(self):
        for p in support.PRIMES:
            for web, colours, flows in (
                    (NONE, 1, 1), ((3, ()), p ** 3, 1), (LINE, p * (p - 1) ** 2, 0),
                    (TRIANGLE, p * (p - 1) * (p - 2), p - 1),
                    (SQUARE, (p - 1) ** 4 + (p - 1), p - 1),
                    (FULL, p * (p - 1) * (p - 2) * (p - 3), (p - 1) * (p - 2) * (p - 3)),
                    (ROUND_8, (p - 1) ** 8 + (p - 1), p - 1),
                    (FIVE, p * (p - 1) * (p - 2) * (p - 3) * (p - 4), None),
                    ((6, ((0, 1), (0, 2), (1, 2), (3, 4), (3, 5), (4, 5))), (p * (p - 1) * (p - 2)) ** 2,
                     (p - 1) ** 2)):
                level = level_patch(p, web_order(web), 1)
                self.assertEqual(apart_count(level), colours)
                if flows is not None:
                    self.assertEqual(flow_count(level), flows)

    def test_ties_of_the_size_0(self):
        patch = web_patch(5, LINE, (1, 1, 1, 1, 0), ((((1,),), ((1,),)), ((), ())))
        self.assertEqual(apart_count(patch), 0)
        self.assertEqual(flow_count(patch), 0)
        patch = web_patch(5, TRIANGLE, (1, 1, 1, 1, 1, 0), ((((1,),),) * 2, (((1,),),) * 2, ((), ())))
        self.assertEqual(apart_count(patch), 0)
        self.assertEqual(flow_count(patch), 0)

    def test_great_ones(self):
        rng = random.Random(11)
        sizes = (6, 6, 6, 6, 6) + (1,) * 10
        ends = tuple(tuple(support.random_table(rng, 13, 1, 6) for _ in range(2)) for _ in range(10))
        patch = web_patch(13, FIVE, sizes, ends)
        rank = support.rank_of(13, border_table(patch))
        self.assertEqual(rank, 10)
        # Ties that do not hang on one another: each is left out of 12 in 13 of all.
        self.assertEqual(apart_count(patch), 13 ** 20 * 12 ** 10)
        self.assertEqual(flow_count(patch), 0)
        # The same with ties that tell nothing: every load is zeros at them, and every flow is one.
        nothing = web_patch(13, FIVE, sizes, ((support.zero_table(1, 6),) * 2,) * 10)
        self.assertEqual(apart_count(nothing), 0)
        self.assertEqual(flow_count(nothing), 12 ** 10)


class NotWebTest(unittest.TestCase):

    ORDERS = (support.chain(2), support.chain(3), support.VEE, support.CROWN, support.DIAMOND, support.ENN,
              support.HEXAGON[:1] + (tuple(sorted((y, x) for x, y in support.HEXAGON[1])),),
              # A tie ahead of a place; ties in a wrong sequence; a tie of three places, of one; nine places.
              support.order(3, (0, 1), (2, 1)), support.order(5, (0, 4), (1, 4), (1, 3), (2, 3)),
              support.order(4, (0, 3), (1, 3), (2, 3)), support.order(4, (0, 2), (1, 2), (1, 3)), (9, ()),
              (10, ((0, 9), (1, 9))), support.order(4, (0, 2), (1, 2), (0, 3), (1, 3)), (16, ()),
              support.order(4, (0, 1), (0, 2), (1, 3), (2, 3)), support.order(5, (0, 2), (1, 2), (2, 3), (1, 3)))

    def test_orders(self):
        for order in self.ORDERS:
            for patch in (level_patch(3, order, 1), level_patch(3, order, 0)):
                for action, more in ((border_table, ()), (least_load, ((0,) * sum(patch[2]),)), (tie_kinds, ()),
                                     (flow_patch, ((True,),)), (flow_patch, ((),)), (apart_count, ()),
                                     (flow_count, ())):
                    self.assertEqual(support.refused(action, patch, *more), ("NotWeb",))

    def test_webs(self):
        # Each order of a web is taken, the hexagon among them.
        self.assertEqual(web_order(TRIANGLE)[0], 6)
        for web in WEBS:
            level = level_patch(3, web_order(web), 1)
            for action in (border_table, tie_kinds, apart_count, flow_count):
                self.assertIsNone(support.refused(action, level))
            self.assertIsNone(support.refused(flow_patch, level, (True,) * len(web[1])))
            self.assertIsNone(support.refused(least_load, level, (1,) * len(web[1])))


if __name__ == "__main__":
    unittest.main()
