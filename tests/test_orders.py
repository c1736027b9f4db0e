"""[5], [6]: orders, rows, up sets; tried on all orders of up to four spots."""

import random
import unittest

from patchrooms.orders import (covers_of, down_of, height, is_up, need_order, order_of, part_order, rows, up_hull,
                               up_of, upside_down, ups)
from tests import support

ORDERS = [value for n in range(5) for value in support.all_orders(n)]


def greater_orders(seed, count):
    rng = random.Random(seed)
    return [support.random_order(rng, rng.randint(5, 9), rng.choice((0.1, 0.25, 0.5))) for _ in range(count)]


class NeedOrderTest(unittest.TestCase):

    def test_orders_are_returned(self):
        for value in ORDERS + [support.chain(16), support.antichain(16), (0, ())]:
            self.assertIs(need_order(value), value)

    def test_form(self):
        wrong = [
            None, 3, "order", (), (2,), (2, (), ()), [2, ()], {2: ()}, (2, []), (2, {}), (2, None), (2, "ab"),
            (True, ()), (False, ()), (2.0, ()), ("2", ()), (None, ()), (-1, ()), (17, ()), ((2,), ()),
            (2, ([0, 1],)), (2, ((0, 1, 1),)), (2, ((0,),)), (2, (0, 1)), (2, ("01",)), (2, ({0, 1},)),
            (2, ((0, 2),)), (2, ((-1, 0),)), (2, ((2, 0),)), (2, ((0, 0),)), (2, ((1, 1),)),
            (2, ((0, True),)), (2, ((False, 1),)), (2, ((0, 1.0),)), (2, ((0, None),)), (2, ((0, "1"),)),
            (3, ((0, 2), (0, 1))), (3, ((0, 1), (0, 1))), (3, ((1, 2), (0, 2))), (0, ((0, 1),)), (1, ((0, 1),)),
            (17, support.chain(17)[1]), (3, [(0, 1)]), (3, frozenset([(0, 1)])), (3, ((0, 1), None))]
        for value in wrong:
            self.assertEqual(support.refused(need_order, value), ("NotOrder", "form"), value)

    def test_chain(self):
        wrong = [(3, ((0, 1), (1, 2))), (2, ((0, 1), (1, 0))), (3, ((0, 1), (1, 2), (2, 0))),
                 (4, ((0, 1), (0, 2), (1, 2), (2, 3))), (3, ((0, 1), (0, 2), (1, 0), (1, 2))),
                 (16, support.chain(16)[1][:5] + support.chain(16)[1][6:])]
        for value in wrong:
            self.assertEqual(support.refused(need_order, value), ("NotOrder", "chain"), value)

    def test_form_comes_first(self):
        self.assertEqual(support.refused(need_order, (3, ((0, 1), (1, 2), (1, 1)))), ("NotOrder", "form"))
        self.assertEqual(support.refused(need_order, (3, ((1, 2), (0, 1)))), ("NotOrder", "form"))

    def test_all_relations_on_three_spots(self):
        unlike = [(x, y) for x in range(3) for y in range(3) if x != y]
        for chosen in support.subsets(6):
            pairs = tuple(unlike[k] for k in chosen)
            expected = None if support.is_order_by_words(3, pairs) else ("NotOrder", "chain")
            self.assertEqual(support.refused(need_order, (3, pairs)), expected)


class OrderOfTest(unittest.TestCase):

    def test_given_pairs(self):
        self.assertEqual(order_of(0, ()), (0, ()))
        self.assertEqual(order_of(3, ((1, 2), (0, 1), (1, 2))), (3, ((0, 1), (0, 2), (1, 2))))
        self.assertEqual(order_of(4, ((3, 0), (2, 1))), (4, ((2, 1), (3, 0))))
        line = tuple((x, x + 1) for x in reversed(range(15)))
        self.assertEqual(order_of(16, line), support.chain(16))

    def test_none_with_them(self):
        for n, pairs in ((1, ((0, 0),)), (2, ((0, 1), (1, 0))), (3, ((2, 0), (0, 1), (1, 2))), (3, ((0, 1), (2, 2))),
                         (16, tuple((x, (x + 1) % 16) for x in range(16)))):
            self.assertEqual(support.refused(order_of, n, pairs), ("NotOrder", "chain"))

    def test_against_the_least_relation(self):
        rng = random.Random(1)
        refused = 0
        for _ in range(400):
            n = rng.randint(1, 6)
            pairs = tuple((rng.randrange(n), rng.randrange(n)) for _ in range(rng.randint(0, n)))
            least = support.closed(n, pairs)
            if any(x == y for x, y in least):
                refused += 1
                self.assertEqual(support.refused(order_of, n, pairs), ("NotOrder", "chain"))
            else:
                self.assertEqual(order_of(n, pairs), (n, least))
        self.assertGreater(refused, 50)


class PartsOfOrdersTest(unittest.TestCase):

    def test_covers(self):
        self.assertEqual(covers_of(support.chain(4)), ((0, 1), (1, 2), (2, 3)))
        self.assertEqual(covers_of(support.DIAMOND), ((0, 1), (0, 2), (1, 3), (2, 3)))
        self.assertEqual(covers_of((0, ())), ())
        for value in ORDERS + greater_orders(2, 40):
            n, pairs = value
            expected = tuple((x, z) for x, z in pairs
                             if not [y for y in range(n) if (x, y) in pairs and (y, z) in pairs])
            self.assertEqual(covers_of(value), expected)
            self.assertEqual(order_of(n, covers_of(value)), value)
            self.assertEqual(order_of(n, covers_of(value)[::-1]), value)

    def test_upside_down(self):
        self.assertEqual(upside_down((3, ((0, 1), (0, 2)))), (3, ((1, 0), (2, 0))))
        self.assertEqual(upside_down((0, ())), (0, ()))
        for value in ORDERS + greater_orders(3, 20):
            turned = upside_down(value)
            self.assertEqual(turned, (value[0], tuple(sorted((y, x) for x, y in value[1]))))
            self.assertEqual(upside_down(turned), value)

    def test_part_order(self):
        self.assertEqual(part_order(support.chain(4), (0, 2, 3)), support.chain(3))
        self.assertEqual(part_order(support.order(4, (3, 1), (1, 0)), (0, 3)), (2, ((1, 0),)))
        self.assertEqual(part_order(support.chain(4), ()), (0, ()))
        for value in ORDERS[-80:] + greater_orders(4, 6):
            for spots in support.subsets(value[0]):
                pairs = tuple((i, j) for i, x in enumerate(spots) for j, y in enumerate(spots) if (x, y) in value[1])
                self.assertEqual(part_order(value, spots), (len(spots), pairs))


class RowsTest(unittest.TestCase):

    def test_given_rows(self):
        self.assertEqual(rows(support.chain(3), 0), ((0,), (1,), (2,)))
        self.assertEqual(rows(support.chain(3), 1), ((0, 1), (0, 2), (1, 2)))
        self.assertEqual(rows(support.chain(3), 2), ((0, 1, 2),))
        self.assertEqual(rows(support.chain(3), 3), ())
        self.assertEqual(rows(support.order(3, (2, 1), (1, 0)), 1), ((1, 0), (2, 0), (2, 1)))
        self.assertEqual(rows(support.chain(16), 15), (tuple(range(16)),))
        self.assertEqual(rows(support.chain(16), 16), ())
        self.assertEqual(rows((0, ()), 0), ())

    def test_all_lengths(self):
        for value in ORDERS + greater_orders(5, 20):
            n, pairs = value
            longest = -1
            for k in range(n + 1):
                found = rows(value, k)
                expected = [spots for spots in _arranged(pairs, support.subsets(n)) if len(spots) == k + 1]
                self.assertEqual(found, tuple(sorted(expected)))
                longest = k if found else longest
            self.assertEqual(height(value), longest)

    def test_height(self):
        for n in range(17):
            self.assertEqual(height(support.chain(n)), n - 1)
            self.assertEqual(height(support.antichain(n)), 0 if n else -1)
        self.assertEqual(height(support.DIAMOND), 2)


def _arranged(pairs, sets):
    """The sets of spots that are rows, in the sequence of the order."""
    for spots in sets:
        row = sorted(spots, key=lambda x: sum((y, x) in pairs for y in spots))
        if all((row[i], row[i + 1]) in pairs for i in range(len(row) - 1)):
            yield tuple(row)


class UpSetsTest(unittest.TestCase):

    def test_up_of_and_down_of(self):
        value = support.order(4, (3, 1), (1, 0))
        self.assertEqual(up_of(value, 3), (0, 1, 3))
        self.assertEqual(up_of(value, 2), (2,))
        self.assertEqual(down_of(value, 0), (0, 1, 3))
        self.assertEqual(down_of(value, 3), (3,))
        for value in ORDERS + greater_orders(6, 20):
            n, pairs = value
            for x in range(n):
                self.assertEqual(up_of(value, x), tuple(y for y in range(n) if y == x or (x, y) in pairs))
                self.assertEqual(down_of(value, x), tuple(y for y in range(n) if y == x or (y, x) in pairs))

    def test_up_sets_among_all_spot_sets(self):
        for value in ORDERS + greater_orders(7, 12):
            found = []
            for spots in support.subsets(value[0]):
                expected = support.is_up_by_words(value, spots)
                self.assertIs(is_up(value, spots), expected)
                if expected:
                    found.append(spots)
                hull = up_hull(value, spots)
                self.assertEqual(hull, tuple(sorted(set(spots) | {y for x, y in value[1] if x in spots})))
                self.assertTrue(is_up(value, hull))
                self.assertEqual(hull == spots, expected)
            self.assertEqual(ups(value), tuple(sorted(found)))

    def test_given_up_sets(self):
        self.assertEqual(ups((0, ())), ((),))
        self.assertEqual(ups((1, ())), ((), (0,)))
        self.assertEqual(ups(support.VEE), ((), (0, 1, 2), (1,), (1, 2), (2,)))
        self.assertEqual(up_hull(support.VEE, ()), ())
        self.assertIs(is_up(support.VEE, ()), True)

    def test_just_1000_and_one_more(self):
        # The up sets of orders beside one another are multiplied: 5 * 5 * 5 * 8.
        vees = [(3 * k, 3 * k + j) for k in range(3) for j in (1, 2)]
        just = support.order(12, *vees)
        self.assertEqual(len(ups(just)), 1000)
        self.assertEqual(len(set(ups(just))), 1000)
        # A spot below all others adds the set of all spots alone.
        more = support.order(13, *(vees + [(12, x) for x in range(12)]))
        self.assertEqual(support.refused(ups, more), ("TooMany", 1000))
        self.assertEqual(support.refused(ups, support.antichain(16)), ("TooMany", 1000))
        self.assertEqual(support.refused(ups, support.antichain(10)), ("TooMany", 1000))
        self.assertEqual(len(ups(support.antichain(9))), 512)
        self.assertEqual(len(ups(support.chain(16))), 17)


if __name__ == "__main__":
    unittest.main()
