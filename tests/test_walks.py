"""[51], [52]: still patches, walks, rules of ways round."""

import random
import unittest

from patchrooms.leadings import pieces, product_order
from patchrooms.moved import back_patch
from patchrooms.patches import level_patch, need_patch
from patchrooms.walks import is_still, need_walk, round_rules, tree_of_ties, walked
from tests import slow, support
from tests.test_duals import TWO_CROWNS, twisted

NONE = (7, slow.EMPTY, (), ())
# A crown with a chain: rules, and a way round that no rule undoes.
BAND = product_order(support.CROWN, support.chain(2))
TIED = (support.CROWN, support.HEXAGON, support.DOUBLE_CROWN, slow.halved_cube(), BAND, support.VEE, support.chain(4),
        (1, ()), slow.layers(3, 3), slow.MIXED, slow.BROAD, support.order(4, (3, 1), (3, 0), (2, 0), (2, 1)), twisted())
ORDERS = TIED + slow.ORDERS + (TWO_CROWNS,)


def still_over(rng, prime, order, size):
    """A still patch over an order whose rows have lengths of at most 1, by any tables at all."""
    tables = tuple(support.random_invertible(rng, prime, size)[0] for _ in order[1])
    return prime, order, (size,) * order[0], tables


def stills(seed, count, most=3):
    """Still patches over all primes, with ways round that change something, and ones with rules."""
    rng = random.Random(seed)
    found = []
    for k in range(count):
        prime, size = support.PRIMES[k % 6], rng.randint(1, most)
        order = rng.choice((support.CROWN, support.HEXAGON, slow.layers(2, 3), support.order(4, (3, 1), (3, 0), (2, 0),
                                                                                             (2, 1))))
        patch = still_over(rng, prime, order, size)
        if k % 3 == 0:
            patch = back_patch(still_over(rng, prime, support.CROWN, size), BAND, tuple(x // 2 for x in range(8)))
        if k % 5 == 4:
            patch = slow.turned_bases(rng, level_patch(prime, rng.choice((slow.halved_cube(), slow.BROAD,
                                                                          support.DOUBLE_CROWN)), size))[0]
        found.append(slow.turned_bases(rng, patch)[0])
    return found


def near(order, x):
    return [y for y in range(order[0]) if x == y or (x, y) in order[1] or (y, x) in order[1]]


def random_walk(rng, order, steps, start=None):
    walk = [rng.randrange(order[0]) if start is None else start]
    for _ in range(steps):
        walk.append(rng.choice(near(order, walk[-1])))
    return tuple(walk)


def undone(prime, table):
    """The table that undoes a table that can be turned back."""
    size = len(table)
    columns = [tuple(line[k] for line in table) for k in range(size)]
    factors = [slow.solution(prime, columns, unit) for unit in slow.units(size)]
    return tuple(tuple(column[k] for column in factors) for k in range(size))


def walked_by_words(patch, walk):
    table = support.identity(patch[2][walk[0]])
    for x, y in zip(walk, walk[1:]):
        step = support.lead_table(patch, x, y) if slow.is_below(patch[1], x, y) else \
            undone(patch[0], support.lead_table(patch, y, x))
        table = support.matrix_times(patch[0], table, step, patch[2][walk[0]])
    return table


class StillTest(unittest.TestCase):

    def test_given(self):
        chain = support.chain(2)
        self.assertIs(is_still(NONE), True)
        self.assertIs(is_still(level_patch(5, support.CROWN, 2)), True)
        self.assertIs(is_still(level_patch(5, support.CROWN, 0)), True)
        # Sizes need be alike on each piece alone.
        self.assertIs(is_still((5, (3, ((0, 1),)), (2, 2, 7), (((1, 2), (2, 1)),))), True)
        self.assertIs(is_still((3, (3, ((0, 1),)), (2, 2, 7), (((1, 2), (2, 1)),))), False)
        # A table without lines, whose lines would have entries, cannot be turned back; nor the other way.
        self.assertIs(is_still((5, chain, (2, 0), ((),))), False)
        self.assertIs(is_still((5, chain, (0, 2), (((), ()),))), False)
        self.assertIs(is_still((5, chain, (0, 0), ((),))), True)
        self.assertIs(is_still((5, chain, (1, 2), (((1,), (0,)),))), False)
        self.assertIs(is_still((5, chain, (2, 1), (((1, 0),),))), False)
        self.assertIs(is_still((5, chain, (1, 1), (((0,),),))), False)

    def test_by_words(self):
        seen = [0, 0]
        for patch in stills(1, 60) + slow.made_patches(1, 60) + support.patches(1, 90, orders=slow.ORDERS):
            self.assertEqual(need_patch(patch), patch)
            expected = all(patch[2][x] == patch[2][y] == support.rank_of(patch[0], table)
                           for (x, y), table in zip(patch[1][1], patch[3]))
            self.assertIs(is_still(patch), expected)
            seen[expected] += 1
        self.assertGreater(min(seen), 60)


class NeedWalkTest(unittest.TestCase):

    def test_walks(self):
        rng = random.Random(2)
        for order in ORDERS:
            for _ in range(8 if order[0] else 0):
                walk = random_walk(rng, order, rng.randint(0, 12))
                self.assertIs(need_walk(order, walk), walk)
        for walk in ((0,), (0, 0), (0, 2, 1, 3, 0), (2, 2, 2), (3, 1, 2, 0, 0, 3)):
            self.assertEqual(need_walk(support.CROWN, walk), walk)
        self.assertEqual(need_walk(support.chain(3), (2, 0, 2, 1)), (2, 0, 2, 1))

    def wrong(self, order, value, place):
        before = repr(value)
        self.assertEqual(support.refused(need_walk, order, value), ("NotWalk", place))
        self.assertEqual(repr(value), before)

    def test_no_walks(self):
        crown = support.CROWN
        for value in (None, 0, 7, True, 0.5, "0", "", [], [0, 2], {0: 2}, (), (4,), (-1,), (True,), (False, 2), (0, True), (0, None),
                      (0, "2"), (0, 2.0), ((0, 2),), (0, (2,)), b"\x00\x02", (0, 2, 4), (0, 2, -1)):
            self.wrong(crown, value, -1)
        # An entry that is no spot is told ahead of a wrong step.
        self.wrong(crown, (0, 1, 4), -1)
        self.wrong(crown, (0, 1, True), -1)
        self.wrong(crown, (0, 1), 1)
        self.wrong(crown, (0, 2, 3), 2)
        self.wrong(crown, (0, 2, 2, 3, 1, 0), 3)
        self.wrong(crown, (0, 2, 1, 0, 3, 2), 3)
        self.wrong((2, ()), (0, 0, 1), 2)
        for value in ((), (0,), (0, 0), None):
            self.wrong(slow.EMPTY, value, -1)


class WalkedTest(unittest.TestCase):

    def test_given(self):
        patch = (5, support.CROWN, (1, 1, 1, 1), (((2,),), ((3,),), ((1,),), ((4,),)))
        self.assertEqual(walked(patch, (0,)), ((1,),))
        self.assertEqual(walked(patch, (0, 2)), ((2,),))
        self.assertEqual(walked(patch, (2, 0)), ((3,),))
        self.assertEqual(walked(patch, (0, 0, 2, 2)), ((2,),))
        # Up by 2, down by 1, up by 4, down by 3.
        self.assertEqual(walked(patch, (0, 2, 1, 3, 0)), ((1,),))
        self.assertEqual(walked(patch, (3, 1, 2, 0)), ((2,),))
        chain = (7, support.chain(2), (2, 2), (((1, 1), (0, 1)),))
        self.assertEqual(walked(chain, (1, 0)), ((1, 6), (0, 1)))
        self.assertEqual(walked(level_patch(3, support.VEE, 0), (1, 0, 2)), ())

    def test_by_words(self):
        rng, seen = random.Random(3), 0
        for patch in stills(3, 90):
            for _ in range(3):
                walk = random_walk(rng, patch[1], rng.randint(0, 9))
                found = walked(patch, walk)
                self.assertTrue(support.is_plain(found))
                self.assertEqual(found, walked_by_words(patch, walk))
                seen += found != support.identity(patch[2][0])
        self.assertGreater(seen, 90)

    def test_one_behind_the_other_and_turned_about(self):
        rng = random.Random(4)
        for patch in stills(4, 60):
            walk = random_walk(rng, patch[1], 5)
            more = random_walk(rng, patch[1], 4, walk[-1])
            table = walked(patch, walk)
            self.assertEqual(walked(patch, walk + more), support.matrix_times(patch[0], table, walked(patch, more),
                                                                              len(table)))
            self.assertEqual(walked(patch, walk + more[1:]), walked(patch, walk + more))
            self.assertEqual(walked(patch, walk[::-1]), undone(patch[0], table))
            self.assertEqual(walked(patch, walk + walk[::-1]), support.identity(len(table)))

    def test_alike_walks(self):
        rng, seen = random.Random(5), 0
        for patch in stills(5, 90):
            order = patch[1]
            walk = random_walk(rng, order, 6)
            table = walked(patch, walk)
            for _ in range(12):
                walk = changed(rng, order, walk)
                self.assertEqual(need_walk(order, walk), walk)
                self.assertEqual(walked(patch, walk), table)
            seen += table != support.identity(len(table))
        self.assertGreater(seen, 40)

    def test_refusals(self):
        patch = (5, support.CROWN, (1, 1, 1, 1), (((2,),), ((3,),), ((1,),), ((0,),)))
        for walk in ((0,), (0, 2), (0, 1), (), None, (0, 9)):
            self.assertEqual(support.refused(walked, patch, walk), ("NotStill",))
        level = level_patch(5, support.CROWN, 1)
        for walk, place in ((None, -1), ([0], -1), ((), -1), ((0, True), -1), ((0, 4), -1), ((0, 1), 1),
                            ((0, 2, 3, 0), 2), ("02", -1)):
            before = repr(walk)
            self.assertEqual(support.refused(walked, level, walk), ("NotWalk", place))
            self.assertEqual(repr(walk), before)
        self.assertEqual(support.refused(walked, NONE, ()), ("NotWalk", -1))
        self.assertEqual(support.refused(walked, NONE, (0,)), ("NotWalk", -1))


def changed(rng, order, walk):
    """A walk alike: a spot told twice or once, or one put in or taken out between comparable ones."""
    place = rng.randrange(len(walk))
    if rng.random() < 0.3:
        return walk[:place] + walk[place:place + 1] + walk[place:]
    if place + 1 < len(walk) and walk[place] == walk[place + 1]:
        return walk[:place] + walk[place + 1:]
    if place + 1 < len(walk) and rng.random() < 0.6:
        x, z = walk[place], walk[place + 1]
        fitting = [y for y in range(order[0]) if y in near(order, x) and y in near(order, z)]
        return walk[:place + 1] + (rng.choice(fitting),) + walk[place + 1:]
    if 0 < place < len(walk) - 1 and walk[place + 1] in near(order, walk[place - 1]):
        return walk[:place] + walk[place + 1:]
    return walk


class RulesTest(unittest.TestCase):

    def test_given(self):
        self.assertEqual(tree_of_ties(support.CROWN), ((0, 2), (0, 3), (1, 2)))
        self.assertEqual(round_rules(support.CROWN), (((1, 3),), ()))
        self.assertEqual(tree_of_ties(support.chain(3)), ((0, 1), (0, 2)))
        self.assertEqual(round_rules(support.chain(3)), (((1, 2),), (((0, 1),),)))
        self.assertEqual(tree_of_ties(support.DIAMOND), ((0, 1), (0, 2), (0, 3)))
        self.assertEqual(round_rules(support.DIAMOND), (((1, 3), (2, 3)), (((0, 1),), ((1, 1),))))
        for order in (slow.EMPTY, (1, ()), support.antichain(4)):
            self.assertEqual(tree_of_ties(order), ())
            self.assertEqual(round_rules(order), ((), ()))
        # Two pieces have a tree each; from 1 to 0 to 2 and at once.
        self.assertEqual(tree_of_ties(support.order(5, (1, 0), (0, 2), (4, 3))), ((0, 2), (1, 0), (4, 3)))
        self.assertEqual(round_rules(support.order(5, (1, 0), (0, 2), (4, 3))), (((1, 2),), (((0, -1),),)))
        self.assertEqual(len(round_rules(support.chain(16))[0]), 105)

    def test_tree_by_words(self):
        for order in ORDERS + (support.chain(16), slow.layers(8, 8)):
            tied = {x: {x} for x in range(order[0])}
            expected = []
            for x, y in order[1]:
                if y not in tied[x]:
                    expected.append((x, y))
                    both = tied[x] | tied[y]
                    for z in both:
                        tied[z] = both
            found = tree_of_ties(order)
            self.assertTrue(support.is_plain(found))
            self.assertEqual(found, tuple(expected))
            self.assertEqual(len(found), order[0] - len(pieces(order)))

    def test_rules_by_words(self):
        signs = set()
        for order in ORDERS + (support.chain(9), slow.layers(2, 2, 2, 2)):
            pairs, rules = round_rules(order)
            self.assertTrue(support.is_plain((pairs, rules)))
            tree = tree_of_ties(order)
            self.assertEqual(sorted(pairs + tree), list(order[1]))
            expected = []
            for x, y, z in slow.rows(order, 2):
                word = [(pair, turn) for pair, turn in (((x, y), 1), ((y, z), 1), ((x, z), -1)) if pair not in tree]
                expected.append(tuple((list(pairs).index(pair), turn) for pair, turn in word))
            self.assertEqual(rules, tuple(expected))
            self.assertTrue(all(rules))
            signs |= {len(rule) for rule in rules}
        self.assertEqual(signs, {1, 2, 3})

    def test_still_patches_keep_the_rules(self):
        for patch in stills(6, 60):
            order = patch[1]
            roads = {x: road_from(order, x) for x in range(order[0])}
            pairs, rules = round_rules(order)
            for rule in rules:
                walk = (0,)
                for number, turn in rule:
                    x, y = pairs[number]
                    step = roads[x] + roads[y][::-1]
                    walk += step if turn == 1 else step[::-1]
                self.assertEqual(walked(patch, walk), support.identity(patch[2][0]))


def road_from(order, x):
    """A walk along the tree from the spot 0 to x."""
    tree = tree_of_ties(order)
    roads = {0: (0,)}
    while x not in roads:
        for a, b in tree:
            if (a in roads) != (b in roads):
                low, high = (a, b) if a in roads else (b, a)
                roads[high] = roads[low] + (high,)
    return roads[x]


if __name__ == "__main__":
    unittest.main()
