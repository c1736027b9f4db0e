"""[46]: turns of patches, traces and fixed spots."""

import itertools
import random
import unittest

from patchrooms.holes import border_of, hole_basis, hole_parts, hole_size, hole_sizes
from patchrooms.maps import behind_map, map_space, need_map
from patchrooms.moved import back_patch
from patchrooms.orders import part_order
from patchrooms.patches import level_patch
from patchrooms.signed import part_size
from patchrooms.traces import fixed_spots, fixed_traces, hole_turn, round_sizes, trace, turned_load
from tests import slow, support
from tests.test_moved import some_map
from tests.test_duals import TWO_CROWNS

NONE = (7, slow.EMPTY, (), ())
# The crown turned about by a step, its lows exchanged, and put on one spot.
STEP, EXCHANGE, TO_ONE = (1, 0, 3, 2), (1, 0, 2, 3), (0, 0, 0, 0)
# The hexagon turned over: the lows 1 and 2 exchanged, and so the tops between them and the low 0.
HEX_OVER = (0, 2, 1, 4, 3, 5)


def back(patch, along):
    """The patch led along, whether or not its sizes are too great."""
    tables = tuple(support.lead_table(patch, along[x], along[y]) for x, y in patch[1][1])
    return patch[0], patch[1], tuple(patch[2][y] for y in along), tables


def turns(seed, count, many=2):
    """(patch, along, led), with at most 160 entries in the maps that are looked at."""
    rng = random.Random(seed)
    found = []
    for patch in slow.made_patches(seed, count, many) + slow.patches(seed, count, 4) + levels(rng, count // 4):
        along = slow.random_leading(rng, patch[1], patch[1])
        if rng.random() < 0.3:
            along = tuple(range(patch[1][0]))
        if not support.refused(map_space, back(patch, along), patch):
            found.append((patch, along, some_map(rng, back(patch, along), patch)))
    return found


def levels(rng, count):
    return [level_patch(support.PRIMES[k % 6], rng.choice(slow.HOLED), rng.randint(1, 2)) for k in range(count)]


def level_turn(prime, order, along):
    """The level patch of the size 1 and what changes nothing."""
    return level_patch(prime, order, 1), along, (((1,),),) * order[0]


def top(patch):
    return slow.height(patch[1])


class TurnedLoadTest(unittest.TestCase):

    def test_given(self):
        level, along, led = level_turn(5, support.CROWN, EXCHANGE)
        # The rows are (0, 2), (0, 3), (1, 2), (1, 3).
        self.assertEqual(turned_load(level, along, led, 1, (1, 2, 3, 4)), (3, 4, 1, 2))
        self.assertEqual(turned_load(level, STEP, led, 1, (1, 2, 3, 4)), (4, 3, 2, 1))
        self.assertEqual(turned_load(level, STEP, led, 0, (1, 2, 3, 4)), (2, 1, 4, 3))
        # Rows led to one spot have nothing.
        self.assertEqual(turned_load(level, TO_ONE, led, 1, (1, 2, 3, 4)), (0, 0, 0, 0))
        self.assertEqual(turned_load(level, TO_ONE, led, 0, (1, 2, 3, 4)), (1, 1, 1, 1))
        self.assertEqual(turned_load(level, (0, 0, 2, 0), led, 1, (1, 2, 3, 4)), (1, 0, 1, 0))
        led = (((2,),), ((1,),), ((3,),), ((4,),))
        self.assertEqual(turned_load(level, EXCHANGE, led, 1, (1, 2, 3, 4)), (4, 1, 3, 3))
        self.assertEqual(turned_load(level, EXCHANGE, led, 2, ()), ())
        self.assertEqual(turned_load(level, EXCHANGE, led, 16, ()), ())
        self.assertEqual(turned_load(NONE, (), (), 0, ()), ())
        chain = (7, support.chain(2), (1, 2), (((1,), (0,)),))
        self.assertEqual(turned_load(chain, (0, 0), (((3,),), ((3,), (0,))), 0, (2, 5, 6)), (6, 6, 0))
        self.assertEqual(turned_load(chain, (0, 0), (((3,),), ((3,), (0,))), 1, (5, 6)), (0, 0))

    def test_by_words(self):
        rng, seen = random.Random(1), 0
        for patch, along, led in turns(1, 60):
            self.assertEqual(need_map(back(patch, along), patch, led), led)
            for k in range(top(patch) + 2):
                load = support.random_column(rng, patch[0], slow.load_size(patch, k))
                told = slow.told_by_rows(patch, k, load)
                expected = ()
                for row in slow.rows(patch[1], k):
                    ahead = tuple(along[x] for x in row)
                    if any(x == y for x, y in zip(ahead, ahead[1:])):
                        expected += (0,) * patch[2][row[-1]]
                    else:
                        expected += support.times(patch[0], led[row[-1]], told[ahead])
                found = turned_load(patch, along, led, k, load)
                self.assertTrue(support.is_plain(found))
                self.assertEqual(found, expected)
                seen += k > 0 and any(found)
        self.assertGreater(seen, 20)

    def test_borders(self):
        rng = random.Random(2)
        for patch, along, led in turns(2, 60):
            for k in range(top(patch) + 1):
                load = support.random_column(rng, patch[0], slow.load_size(patch, k))
                self.assertEqual(border_of(patch, k, turned_load(patch, along, led, k, load)),
                                 turned_load(patch, along, led, k + 1, border_of(patch, k, load)))


class HoleTurnTest(unittest.TestCase):

    def test_given(self):
        for prime in support.PRIMES:
            for along, entry in ((STEP, 1), (EXCHANGE, prime - 1), (TO_ONE, 0), ((0, 1, 2, 3), 1)):
                turn = level_turn(prime, support.CROWN, along)
                self.assertEqual(hole_turn(*turn, 0), ((1,),))
                self.assertEqual(hole_turn(*turn, 1), ((entry,),))
                self.assertEqual(hole_turn(*turn, 2), ())
                self.assertEqual(hole_turn(*turn, 16), ())
            # A hexagon turned by a third, and turned over.
            self.assertEqual(hole_turn(*level_turn(prime, support.HEXAGON, (1, 2, 0, 4, 5, 3)), 1), ((1,),))
            self.assertEqual(hole_turn(*level_turn(prime, support.HEXAGON, HEX_OVER), 1),
                             ((prime - 1,),))
        # Two crowns exchanged.
        self.assertEqual(hole_turn(*level_turn(5, TWO_CROWNS, (4, 5, 6, 7, 0, 1, 2, 3)), 0), ((0, 1), (1, 0)))
        self.assertEqual(hole_turn(*level_turn(5, TWO_CROWNS, (4, 5, 6, 7, 0, 1, 2, 3)), 1), ((0, 1), (1, 0)))
        self.assertEqual(hole_turn(*level_turn(5, TWO_CROWNS, (0, 1, 2, 3) * 2), 0), ((1, 0), (1, 0)))
        self.assertEqual(hole_turn(NONE, (), (), 0), ())

    def test_by_loads(self):
        rng, seen = random.Random(3), 0
        for patch, along, led in turns(3, 80):
            for k in range(top(patch) + 2):
                table = hole_turn(patch, along, led, k)
                self.assertTrue(support.is_plain(table))
                many = hole_size(patch, k)
                self.assertEqual(len(table), many)
                self.assertTrue(all(len(line) == many for line in table))
                closed = slow.closed(patch, k)
                for _ in range(2):
                    load = slow.some_of(rng, patch[0], closed, slow.load_size(patch, k))
                    found = turned_load(patch, along, led, k, load)
                    parts = support.times(patch[0], table, hole_parts(patch, k, load))
                    self.assertEqual(hole_parts(patch, k, found), parts)
                    seen += k > 0 and any(parts)
        self.assertGreater(seen, 15)

    def test_traces(self):
        seen, moved = 0, 0
        for patch, along, led in turns(4, 150):
            self.check_traces(patch, along, led)
            seen += any(fixed_traces(patch, along, led))
            moved += along != tuple(range(patch[1][0])) and any(hole_sizes(patch)[1:])
        self.assertGreater(seen, 60)
        self.assertGreater(moved, 25)

    def check_traces(self, patch, along, led):
        prime, order = patch[0], patch[1]
        signs = sum((-1) ** k * trace(prime, hole_turn(patch, along, led, k)) for k in range(top(patch) + 1))
        count = fixed_traces(patch, along, led)
        self.assertEqual(signs % prime, part_size(order, count, fixed_spots(along, 1)) % prime)

    def test_traces_of_level_patches(self):
        rng = random.Random(5)
        for n in range(80):
            order = rng.choice(slow.HOLED + (TWO_CROWNS, support.chain(3)))
            prime = support.PRIMES[n % 6]
            self.check_traces(*level_turn(prime, order, slow.random_leading(rng, order, order)))
        for along in (STEP, EXCHANGE, TO_ONE, (0, 1, 3, 2), (0, 1, 2, 2), (0, 0, 2, 3)):
            for prime in support.PRIMES:
                self.check_traces(*level_turn(prime, support.CROWN, along))

    def test_two_turns(self):
        rng, seen = random.Random(6), 0
        for patch, along, led in turns(6, 80):
            prime, order = patch[0], patch[1]
            further = slow.random_leading(rng, order, order)
            if support.refused(map_space, back(patch, further), patch):
                continue
            more = some_map(rng, back(patch, further), patch)
            both = tuple(along[y] for y in further)
            ahead = tuple(led[y] for y in further)
            # Led along both: what led makes of it, moved back, and then what the second one makes of this.
            self.assertEqual(need_map(back(patch, both), back(patch, further), ahead), ahead)
            made = behind_map(back(patch, both), back(patch, further), patch, ahead, more)
            for k in range(top(patch) + 1):
                one, other = hole_turn(patch, along, led, k), hole_turn(patch, further, more, k)
                self.assertEqual(hole_turn(patch, both, made, k),
                                 support.matrix_times(prime, one, other, len(hole_basis(patch, k))))
                seen += any(map(any, one)) and any(map(any, other))
        self.assertGreater(seen, 20)


class BoundsTest(unittest.TestCase):

    def test_loads(self):
        for just, more in ((slow.JUST, slow.MORE), (slow.JUST_2, slow.MORE_2)):
            for patch, limit in ((just, None), (more, ("TooMany", 160))):
                along = tuple(range(patch[1][0]))
                led = tuple(support.identity(size) for size in patch[2])
                for k in (0, 1, 2, 16):
                    load = (0,) * slow.load_size(patch, k)
                    self.assertEqual(support.refused(turned_load, patch, along, led, k, load), limit)
                    self.assertEqual(support.refused(hole_turn, patch, along, led, k), limit)

    def test_back_patch_may_be_too_great(self):
        order = (6, ())
        patch = (5, order, (8, 0, 1, 0, 0, 0), ())
        led = (support.identity(8), (), ((1, 2, 3, 4, 0, 0, 0, 1),), (), (), ())
        self.assertEqual(support.refused(back_patch, patch, order, (0,) * 6), ("TooMany", 40))
        load = (1, 2, 3, 4, 0, 1, 2, 3, 4)
        self.assertEqual(turned_load(patch, (0,) * 6, led, 0, load), load[:8] + (3,))
        table = hole_turn(patch, (0,) * 6, led, 0)
        self.assertEqual(table, tuple(line + (0,) for line in support.identity(8)) + ((1, 2, 3, 4, 0, 0, 0, 1, 0),))
        self.assertEqual(fixed_traces(patch, (0,) * 6, led), (3, 0, 0, 0, 0, 0))


class TraceTest(unittest.TestCase):

    def test_given(self):
        self.assertEqual(trace(5, ()), 0)
        self.assertEqual(trace(5, ((3,),)), 3)
        self.assertEqual(trace(5, ((3, 1), (1, 4))), 2)
        self.assertEqual(trace(13, ((12, 1, 1), (1, 12, 1), (1, 1, 3))), 1)
        for prime in support.PRIMES:
            for size in range(9):
                self.assertEqual(trace(prime, support.identity(size)), size % prime)


class FixedTest(unittest.TestCase):

    def test_given(self):
        self.assertEqual(fixed_spots((), 1), ())
        self.assertEqual(fixed_spots(STEP, 1), ())
        self.assertEqual(fixed_spots(STEP, 2), (0, 1, 2, 3))
        self.assertEqual(fixed_spots(STEP, 10 ** 9), (0, 1, 2, 3))
        self.assertEqual(fixed_spots(STEP, 10 ** 9 - 1), ())
        self.assertEqual(fixed_spots(EXCHANGE, 1), (2, 3))
        self.assertEqual(fixed_spots(TO_ONE, 1), (0,))
        self.assertEqual(fixed_spots(TO_ONE, 10 ** 9), (0,))
        self.assertEqual(fixed_spots((1, 2, 2), 7), (2,))
        # Rounds of the lengths 3, 5, 7 and 1, all of 16 spots.
        rounds = (1, 2, 0, 4, 5, 6, 7, 3, 9, 10, 11, 12, 13, 14, 8, 15)
        self.assertEqual(fixed_spots(rounds, 1), (15,))
        self.assertEqual(fixed_spots(rounds, 10 ** 9), (3, 4, 5, 6, 7, 15))
        self.assertEqual(fixed_spots(rounds, 999999999), (0, 1, 2, 15))
        self.assertEqual(fixed_spots(rounds, 105 * 9523809), tuple(range(16)))
        self.assertEqual(fixed_spots(tuple(range(1, 16)) + (0,), 16), tuple(range(16)))
        self.assertEqual(fixed_spots(tuple(range(1, 16)) + (0,), 10 ** 9 - 8), ())
        # The last of a long way comes to itself, those ahead never do.
        self.assertEqual(fixed_spots(tuple(range(1, 16)) + (15,), 10 ** 9), (15,))

    def test_by_steps(self):
        rng = random.Random(7)
        for n in range(200):
            order = rng.choice(slow.SMALL + (support.antichain(9),))
            along = slow.random_leading(rng, order, order)
            at = list(range(order[0]))
            for times in range(1, 14):
                at = [along[x] for x in at]
                found = fixed_spots(along, times)
                self.assertTrue(support.is_plain(found))
                self.assertEqual(found, tuple(x for x in range(order[0]) if at[x] == x))

    def test_fixed_traces(self):
        for patch, along, led in turns(8, 60):
            found = fixed_traces(patch, along, led)
            self.assertTrue(support.is_plain(found))
            for x, size in enumerate(patch[2]):
                expected = sum(led[x][i][i] for i in range(size)) % patch[0] if along[x] == x else 0
                self.assertEqual(found[x], expected)
        level, along, led = level_turn(7, support.CROWN, EXCHANGE)
        self.assertEqual(fixed_traces(level, along, led), (0, 0, 1, 1))
        # A spot that comes back to itself by two steps alone is not fixed.
        self.assertEqual(fixed_traces(level, STEP, led), (0, 0, 0, 0))
        self.assertEqual(fixed_traces(level_patch(3, (1, ()), 3), (0,), (support.identity(3),)), (0,))

    def test_a_leading_without_holes_has_a_fixed_spot(self):
        seen = 0
        for order in support.SAMPLES:
            if not 0 < order[0] <= 4:
                continue
            sizes = hole_sizes(level_patch(2, order, 1))
            every = [led for led in itertools.product(range(order[0]), repeat=order[0])
                     if slow.is_leading(order, order, led)]
            if slow.trimmed(sizes) == (1,):
                self.assertTrue(all(fixed_spots(led, 1) for led in every))
                seen += len(every)
        self.assertGreater(seen, 60)
        self.assertEqual(fixed_spots(STEP, 1), ())


class RoundSizesTest(unittest.TestCase):

    def test_given(self):
        self.assertEqual(round_sizes(support.CROWN, STEP, 0), ())
        self.assertEqual(round_sizes(support.CROWN, STEP, 4), (0, 0, 0, 0))
        self.assertEqual(round_sizes(support.CROWN, EXCHANGE, 4), (2, 0, 2, 0))
        self.assertEqual(round_sizes(support.CROWN, TO_ONE, 3), (1, 1, 1))
        self.assertEqual(round_sizes(support.antichain(3), (1, 2, 0), 6), (0, 0, 3, 0, 0, 3))
        self.assertEqual(round_sizes(slow.EMPTY, (), 2), (0, 0))
        self.assertEqual(round_sizes(support.chain(2), (0, 1), 24), (1,) * 24)

    def every(self, seed):
        rng = random.Random(seed)
        found = [(order, slow.random_leading(rng, order, order)) for order in slow.HOLED for _ in range(4)]
        for n in (5, 9, 12, 16):
            names = list(range(n))
            rng.shuffle(names)
            found.append((support.antichain(n), tuple(names)))
        found += [(support.HEXAGON, (1, 2, 0, 4, 5, 3)), (TWO_CROWNS, (5, 4, 6, 7, 0, 1, 2, 3)),
                  (support.DOUBLE_CROWN, (1, 0, 3, 2, 5, 4))]
        rounds = (1, 2, 0, 4, 5, 6, 7, 3, 9, 10, 11, 12, 13, 14, 8, 15)
        return found + [(support.antichain(16), rounds)]

    def test_by_words(self):
        for order, along in self.every(9):
            found = round_sizes(order, along, 24)
            self.assertTrue(support.is_plain(found))
            self.assertEqual(len(found), 24)
            for times in range(1, 25):
                spots = fixed_spots(along, times)
                part = part_order(order, spots)
                self.assertEqual(found[times - 1], slow.whole_size(part, (1,) * len(spots)))
            self.assertEqual(round_sizes(order, along, 7), found[:7])

    def test_what_divides_them(self):
        for order, along in self.every(10):
            sizes = (None,) + round_sizes(order, along, 24)
            for n in range(1, 25):
                total = sum(signs(n // d) * sizes[d] for d in range(1, n + 1) if n % d == 0)
                self.assertEqual(total % n, 0)
                for prime in (2, 3, 5, 7, 11, 13, 17, 19, 23):
                    if n * prime <= 24:
                        self.assertEqual((sizes[n] - sizes[n * prime]) % prime, 0)


def signs(m):
    """0 if a square above 1 divides m, else 1 or -1 by its prime divisors."""
    found = 1
    for prime in (2, 3, 5, 7, 11, 13, 17, 19, 23):
        if m % prime ** 2 == 0:
            return 0
        if m % prime == 0:
            found = -found
    return found


if __name__ == "__main__":
    unittest.main()
