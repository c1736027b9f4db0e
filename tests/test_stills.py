"""[53], [54]: still patches made and counted, orders with sheets."""

import itertools
import random
import unittest

from patchrooms.holes import hole_size, hole_sizes, pieces_size
from patchrooms.leadings import is_tied, need_leading, product_order
from patchrooms.maps import map_space, maps_size, need_map
from patchrooms.moved import forward_patch
from patchrooms.orders import need_order, upside_down
from patchrooms.patches import level_patch, need_patch
from patchrooms.splits import is_same
from patchrooms.stills import sheet_count, sheet_leading, sheets, still_count, still_patch
from patchrooms.sums import maps_patch, mixed_patch
from patchrooms.walks import is_still, round_rules, tree_of_ties, walked
from patchrooms.ways import ways_sizes
from tests import slow, support
from tests.test_duals import TWO_CROWNS, twisted
from tests.test_walks import BAND, TIED, road_from, stills

NONE = (7, slow.EMPTY, (), ())
LOOSE = tuple(order for order in slow.ORDERS if order[0] and not is_tied(order)) + (TWO_CROWNS, support.antichain(2))
# Tied orders with a spot, of which a few have ways round.
ORDERS = tuple(order for order in slow.ORDERS if order[0] and is_tied(order)) + TIED


def composed(n, chosen, rule):
    """To what the exchanges lead 0, .., n - 1 along the word."""
    found = list(range(n))
    for number, turn in rule:
        exchange = chosen[number]
        back = tuple(exchange.index(k) for k in range(n))
        found = [(exchange if turn == 1 else back)[k] for k in found]
    return found


def every_kept(order, n):
    """All ways to give each pair an exchange of n things with all rules kept."""
    pairs, rules = round_rules(order)
    return [chosen for chosen in itertools.product(itertools.permutations(range(n)), repeat=len(pairs))
            if all(composed(n, chosen, rule) == list(range(n)) for rule in rules)]


def numbers_kept(prime, order):
    """How many ways there are to give each pair an integer from 1 to prime - 1 with all rules kept."""
    pairs, rules = round_rules(order)
    count = 0
    for chosen in itertools.product(range(1, prime), repeat=len(pairs)):
        kept = True
        for rule in rules:
            made = 1
            for number, turn in rule:
                made = made * (chosen[number] if turn == 1 else pow(chosen[number], prime - 2, prime)) % prime
            kept = kept and made == 1
        count += kept
    return count


def signs_kept(prime, order):
    """The ways to give each pair 1 or -1 with all rules kept."""
    pairs, rules = round_rules(order)
    columns = [tuple(sum(number == k for number, _ in rule) % 2 for rule in rules) for k in range(len(pairs))]
    lot = support.span(2, slow.null_space(2, columns), len(pairs))
    return [tuple(prime - 1 if entry else 1 for entry in column) for column in sorted(lot)]


def pairs_of(order):
    return len(round_rules(order)[0])


def told_tables(patch):
    """For each pair of the round rules the way from the spot 0 to it, along it, and back, along the tree."""
    found = []
    for x, y in round_rules(patch[1])[0]:
        found.append(walked(patch, road_from(patch[1], x) + road_from(patch[1], y)[::-1]))
    return tuple(found)


class StillPatchTest(unittest.TestCase):

    def test_given(self):
        crown = support.CROWN
        self.assertEqual(still_patch(5, crown, 1, (((3,),),)), (5, crown, (1,) * 4, (((1,),),) * 3 + (((3,),),)))
        self.assertEqual(still_patch(5, crown, 0, ((),)), level_patch(5, crown, 0))
        self.assertEqual(still_patch(5, crown, 2, (((0, 1), (1, 0)),))[3][3], ((0, 1), (1, 0)))
        self.assertEqual(still_patch(5, support.chain(3), 1, (((1,),),)), level_patch(5, support.chain(3), 1))
        self.assertEqual(still_patch(5, slow.EMPTY, 3, ()), (5, slow.EMPTY, (), ()))
        self.assertEqual(still_patch(5, (1, ()), 3, ()), (5, (1, ()), (3,), ()))
        # An order that is not tied has a tree for each piece.
        two = still_patch(3, TWO_CROWNS, 1, (((2,),), ((1,),)))
        self.assertEqual(two[3], (((1,),),) * 3 + (((2,),),) + (((1,),),) * 4)

    def test_by_words(self):
        seen = 0
        for patch in stills(1, 90):
            prime, order, sizes, _ = patch
            tables = told_tables(patch)
            found = still_patch(prime, order, sizes[0], tables)
            self.assertTrue(support.is_plain(found))
            self.assertEqual(need_patch(found), found)
            self.assertTrue(is_still(found))
            self.assertEqual(found[:3], patch[:3])
            leads = dict(zip(order[1], found[3]))
            self.assertEqual([leads[pair] for pair in round_rules(order)[0]], list(tables))
            self.assertTrue(all(leads[pair] == support.identity(sizes[0]) for pair in tree_of_ties(order)))
            # It is the same as the patch of which the tables are told: from 0 along the tree to each spot.
            led = tuple(walked(patch, road_from(order, x)) for x in range(order[0]))
            self.assertEqual(need_map(found, patch, led), led)
            self.assertTrue(all(support.is_invertible(prime, table) for table in led))
            if not support.refused(is_same, found, patch):
                self.assertTrue(is_same(found, patch))
            seen += any(table != support.identity(sizes[0]) for table in tables)
        self.assertGreater(seen, 50)

    def test_broken_rules(self):
        rng, seen = random.Random(2), [0, 0]
        for k in range(150):
            prime, order = support.PRIMES[1 + k % 5], rng.choice((BAND, slow.halved_cube(), support.chain(3),
                                                                  support.DIAMOND, support.DOUBLE_CROWN))
            pairs, rules = round_rules(order)
            kept = rng.choice((0, 1, 2))
            chosen = [rng.randrange(1, prime) if kept == 0 else 1 for _ in pairs]
            if kept == 1 and pairs:
                chosen[rng.randrange(len(pairs))] = prime - 1
            broken = False
            for rule in rules:
                made = 1
                for number, turn in rule:
                    made = made * (chosen[number] if turn == 1 else pow(chosen[number], prime - 2, prime)) % prime
                broken = broken or made != 1
            tables = tuple(((entry,),) for entry in chosen)
            self.assertEqual(support.refused(still_patch, prime, order, 1, tables), ("NotStill",) if broken else None)
            seen[broken] += 1
        self.assertGreater(min(seen), 30)
        # Tables that are not exchanged: a after b is not b after a.
        one, other = ((1, 1), (0, 1)), ((1, 0), (1, 1))
        pairs, rules = round_rules(support.DOUBLE_CROWN)
        self.assertEqual(support.refused(still_patch, 3, support.DOUBLE_CROWN, 2,
                                         tuple(one if k % 2 else other for k in range(len(pairs)))), ("NotStill",))

    def test_bound(self):
        fourteen, thirteen, ten = support.chain(14), support.chain(13), slow.layers(5, 5)
        for order, size, limit in ((thirteen, 3, None), (fourteen, 3, 40), (fourteen, 2, None), (ten, 3, None),
                                   (slow.layers(7, 7), 3, 40), (slow.layers(8, 8), 2, None)):
            still = (support.identity(size),) * pairs_of(order)
            self.assertEqual(support.refused(still_patch, 3, order, size, still), limit and ("TooMany", limit))
        # Too great a size is told ahead of a broken rule.
        broken = (((0, 1, 0), (1, 0, 0), (0, 0, 1)),) * pairs_of(fourteen)
        self.assertEqual(support.refused(still_patch, 3, fourteen, 3, broken), ("TooMany", 40))
        self.assertEqual(support.refused(still_patch, 3, thirteen, 3, broken[:pairs_of(thirteen)]), ("NotStill",))


class CountTest(unittest.TestCase):

    def test_given(self):
        for prime in support.PRIMES:
            self.assertEqual(still_count(prime, slow.EMPTY), 1)
            self.assertEqual(still_count(prime, (1, ())), 1)
            self.assertEqual(still_count(prime, support.CROWN), prime - 1)
            self.assertEqual(still_count(prime, BAND), prime - 1)
            self.assertEqual(still_count(prime, support.DOUBLE_CROWN), 1)
            # Opposite ends of a skin are one: a way round, twice, is none.
            self.assertEqual(still_count(prime, slow.halved_cube()), 1 if prime == 2 else 2)
            # A crown that comes back turned over: integers a with a * a = 1, and any b.
            self.assertEqual(still_count(prime, twisted()), 1 if prime == 2 else 2 * (prime - 1))
            self.assertEqual(still_count(prime, support.chain(16)), 1)
            # Rows of the length 1 alone have no rules.
            for order in (slow.layers(3, 3), slow.layers(2, 5), support.HEXAGON, support.VEE, slow.layers(8, 8)):
                self.assertEqual(still_count(prime, order), (prime - 1) ** pairs_of(order))
                self.assertEqual(round_rules(order)[1], ())
            # A spot below, or above, all others.
            for order in (support.DIAMOND, slow.layers(1, 3, 3), slow.layers(3, 3, 1), slow.layers(1, 2, 2, 2)):
                self.assertEqual(still_count(prime, order), 1)

    def test_by_words(self):
        rng = random.Random(3)
        orders = list(ORDERS) + [support.random_order(rng, 6, 0.5) for _ in range(30)]
        orders += [upside_down(order) for order in ORDERS]
        seen = 0
        for order in orders:
            for prime in support.PRIMES:
                if is_tied(order) and (prime - 1) ** pairs_of(order) <= 5000:
                    self.assertEqual(still_count(prime, order), numbers_kept(prime, order))
                    seen += prime > 2 and still_count(prime, order) > 1 and len(round_rules(order)[1]) > 0
        self.assertGreater(seen, 10)

    def test_by_holes(self):
        for order in ORDERS + (slow.layers(2, 2, 2), slow.layers(3, 3, 2), twisted(), product_order(support.CROWN,
                                                                                                support.CROWN)):
            twos, threes, fives = (hole_size(level_patch(prime, order, 1), 1) for prime in (2, 3, 5))
            self.assertEqual(still_count(2, order), 1)
            self.assertEqual(still_count(3, order), 2 ** twos)
            self.assertEqual(still_count(7, order), 2 ** twos * 3 ** threes)
            self.assertEqual(still_count(11, order), 2 ** twos * 5 ** fives)
            if 2 ** pairs_of(order) <= 30000:
                self.assertEqual(sheet_count(order, 2), 2 ** twos)

    def test_unlike_ones(self):
        # Of the size 1 over the crown, the hexagon and the plane: so many, none the same as another one.
        for prime, order in ((5, support.CROWN), (7, support.HEXAGON), (3, slow.halved_cube()), (7, slow.halved_cube()),
                             (3, slow.layers(3, 2))):
            found = []
            if order == slow.halved_cube():
                every = signs_kept(prime, order)
            else:
                every = itertools.product(range(1, prime), repeat=pairs_of(order))
            for chosen in every:
                tables = tuple(((entry,),) for entry in chosen)
                found.append(still_patch(prime, order, 1, tables))
            self.assertEqual(len(found), still_count(prime, order))
            for one, other in itertools.combinations(found, 2):
                self.assertFalse(is_same(one, other))
                self.assertEqual(maps_size(one, other), 0)
            self.assertTrue(all(maps_size(one, one) == 1 for one in found))

    def test_not_tied(self):
        for order in LOOSE:
            for prime in support.PRIMES:
                self.assertEqual(support.refused(still_count, prime, order), ("NotTied",))


class HolesTest(unittest.TestCase):

    def test_first_hole_size(self):
        seen = [0, 0]
        for patch in stills(4, 90, 1):
            level = level_patch(patch[0], patch[1], 1)
            same = is_same(patch, level)
            self.assertEqual(hole_size(patch, 0), int(same))
            self.assertEqual(maps_size(level, patch), int(same))
            seen[same] += 1
        self.assertGreater(min(seen), 10)

    def test_sums_with_signs(self):
        for patch in stills(5, 60):
            level = level_patch(patch[0], patch[1], 1)
            self.assertEqual(slow.signed(hole_sizes(patch)), patch[2][0] * slow.signed(hole_sizes(level)))

    def test_mixed_and_maps(self):
        rng, seen = random.Random(6), 0
        found = stills(6, 200, 2)
        for one in found:
            others = [patch for patch in found if patch[:2] == one[:2]]
            other = rng.choice(others)
            if support.refused(maps_patch, one, other) or support.refused(ways_sizes, one, other):
                continue
            self.assertTrue(is_still(mixed_patch(one, other)))
            maps = maps_patch(one, other)
            self.assertTrue(is_still(maps))
            self.assertEqual(maps[2], mixed_patch(one, other)[2])
            if slow.most_loads(maps) <= 160:
                self.assertEqual(ways_sizes(one, other), hole_sizes(maps))
                seen += any(hole_sizes(maps)[1:])
        self.assertGreater(seen, 40)


class SheetsTest(unittest.TestCase):

    def test_count_given(self):
        for n, many in enumerate((1, 1, 2, 6, 24)):
            self.assertEqual(sheet_count((1, ()), n), 1)
            self.assertEqual(sheet_count(support.CROWN, n), many)
            self.assertEqual(sheet_count(support.HEXAGON, n), many)
            self.assertEqual(sheet_count(support.chain(3), n), 1)
        # Exchanges that undo themselves: 2 of two things, 4 of three, 10 of four.
        self.assertEqual([sheet_count(slow.layers(2, 3), n) for n in range(4)], [1, 1, 4, 36])
        for n in (0, 1):
            self.assertEqual(sheet_count(support.chain(16), n), 1)
            self.assertEqual(sheet_count(slow.layers(8, 8), n), 1)

    def test_count_by_words(self):
        rng = random.Random(7)
        orders = list(ORDERS) + [support.random_order(rng, 5, 0.6) for _ in range(20)]
        orders += [support.random_order(rng, 6, 0.4) for _ in range(20)]
        seen = 0
        for order in orders:
            for n, many in enumerate((1, 1, 2, 6, 24)):
                if is_tied(order) and order[0] and many ** pairs_of(order) <= 3000:
                    found = sheet_count(order, n)
                    self.assertEqual(found, len(every_kept(order, n)))
                    seen += found > 1 and len(round_rules(order)[1]) > 0
        self.assertGreater(seen, 4)

    def test_count_with_rules(self):
        # Nine pairs, and many rules, but one way round alone.
        self.assertEqual(pairs_of(BAND), 9)
        self.assertEqual([sheet_count(BAND, n) for n in range(3)], [1, 1, 2])
        self.assertEqual(support.refused(sheet_count, BAND, 3), ("TooMany", 30000))

    def test_count_with_pairs_turned_back(self):
        # If what is turned back were not, one way round would have to undo itself.
        for order in (support.order(6, (1, 5), (2, 5), (3, 2), (4, 0), (4, 3), (1, 0)),
                      support.order(6, (0, 1), (0, 2), (3, 1), (3, 4), (4, 5), (5, 2)),
                      support.order(6, (0, 1), (0, 5), (2, 1), (2, 4), (4, 3), (3, 5))):
            self.assertEqual(pairs_of(order), 4)
            self.assertEqual(sheet_count(order, 3), 6)
            self.assertEqual(len(every_kept(order, 3)), 6)

    def test_count_bounds(self):
        for n, just, more in ((2, slow.layers(3, 8), slow.layers(4, 6)), (3, slow.layers(2, 6), slow.layers(2, 7)),
                              (4, slow.layers(2, 4), slow.layers(2, 5))):
            many = len(list(itertools.permutations(range(n))))
            self.assertLessEqual(many ** pairs_of(just), 30000)
            self.assertEqual(sheet_count(just, n), many ** pairs_of(just))
            self.assertEqual(pairs_of(more), pairs_of(just) + 1)
            self.assertEqual(support.refused(sheet_count, more, n), ("TooMany", 30000))
        # However few of them keep the rules.
        for n in (2, 3, 4):
            self.assertEqual(support.refused(sheet_count, support.chain(16), n), ("TooMany", 30000))

    def test_count_not_tied(self):
        beside = (16, slow.layers(7, 8)[1])
        for order in LOOSE + (slow.EMPTY, beside):
            for n in range(5):
                self.assertEqual(support.refused(sheet_count, order, n), ("NotTied",))

    def test_given(self):
        crown = support.CROWN
        self.assertEqual(sheets(crown, 1, ((0,),)), crown)
        self.assertEqual(sheets(crown, 0, ((),)), slow.EMPTY)
        self.assertEqual(sheets(crown, 2, ((0, 1),)), (8, tuple(sorted(
            [(2 * x + i, 2 * y + i) for x, y in crown[1] for i in range(2)]))))
        self.assertEqual(sheets(crown, 2, ((1, 0),)), (8, ((0, 4), (0, 6), (1, 5), (1, 7), (2, 4), (2, 7), (3, 5),
                                                           (3, 6))))
        self.assertEqual(sheets(crown, 3, ((1, 2, 0),))[1][-3:], ((3, 10), (4, 7), (4, 11), (5, 8), (5, 9))[-3:])
        self.assertEqual(sheets((1, ()), 4, ()), (4, ()))
        self.assertEqual(sheet_leading(crown, 3), (0, 0, 0, 1, 1, 1, 2, 2, 2, 3, 3, 3))
        self.assertEqual(sheet_leading(crown, 0), ())
        self.assertEqual(sheet_leading((1, ()), 4), (0, 0, 0, 0))
        self.assertEqual(sheet_leading(support.chain(16), 2), tuple(x // 2 for x in range(32)))

    def every(self, seed):
        rng = random.Random(seed)
        found = []
        for order in ORDERS:
            for n in (1, 2, 3, 4):
                if n * order[0] <= 16 and len(list(itertools.permutations(range(n)))) ** pairs_of(order) <= 3000:
                    kept = every_kept(order, n)
                    found += [(order, n, chosen) for chosen in rng.sample(kept, min(3, len(kept)))]
        return found

    def test_by_words(self):
        seen = 0
        for order, n, chosen in self.every(8):
            found = sheets(order, n, chosen)
            self.assertTrue(support.is_plain(found))
            self.assertEqual(need_order(found), found)
            self.assertEqual(found[0], n * order[0])
            pairs = round_rules(order)[0]
            for x, i in itertools.product(range(order[0]), range(n)):
                for y, j in itertools.product(range(order[0]), range(n)):
                    led = chosen[pairs.index((x, y))][i] if (x, y) in pairs else i
                    self.assertEqual((x * n + i, y * n + j) in found[1], (x, y) in order[1] and led == j)
            leading = sheet_leading(order, n)
            self.assertEqual(leading, tuple(x // n for x in range(n * order[0])))
            self.assertEqual(need_leading(found, order, leading), leading)
            seen += any(exchange != tuple(range(n)) for exchange in chosen)
        self.assertGreater(seen, 20)

    def test_moved_forward(self):
        seen = 0
        for k, (order, n, chosen) in enumerate(self.every(9)):
            prime, over = support.PRIMES[k % 6], sheets(order, n, chosen)
            level = level_patch(prime, over, 1)
            moved = forward_patch(level, order, sheet_leading(order, n))
            self.assertTrue(is_still(moved))
            self.assertEqual(moved[2], (n,) * order[0])
            if slow.most_loads(level) <= 160 and slow.most_loads(moved) <= 160:
                self.assertEqual(slow.trimmed(hole_sizes(moved)), slow.trimmed(hole_sizes(level)))
                self.assertEqual(slow.signed(hole_sizes(level)),
                                 n * slow.signed(hole_sizes(level_patch(prime, order, 1))))
            led = {i: {i} for i in range(n)}
            for exchange in chosen:
                for i, j in enumerate(exchange):
                    both = led[i] | led[j]
                    for sheet in both:
                        led[sheet] = both
            self.assertEqual(pieces_size(over), len({tuple(sorted(lot)) for lot in led.values()}))
            seen += pieces_size(over) < n
        self.assertGreater(seen, 10)

    def test_bound(self):
        still = ((0, 1, 2, 3),)
        self.assertEqual(sheets(support.CROWN, 4, still)[0], 16)
        self.assertEqual(support.refused(sheets, support.HEXAGON, 3, ((0, 1, 2),)), ("TooMany", 16))
        self.assertIsNone(support.refused(sheets, support.HEXAGON, 2, ((0, 1),)))
        pairs = pairs_of(support.chain(9))
        self.assertEqual(support.refused(sheets, support.chain(9), 2, ((0, 1),) * pairs), ("TooMany", 16))
        self.assertIsNone(support.refused(sheets, support.chain(8), 2, ((0, 1),) * pairs_of(support.chain(8))))
        self.assertIsNone(support.refused(map_space, NONE, NONE))


if __name__ == "__main__":
    unittest.main()
