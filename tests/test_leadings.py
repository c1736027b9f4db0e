"""[7], [8]: leadings, orders put together, loose spots, pieces."""

import itertools
import random
import unittest

from patchrooms.leadings import (bared, bared_leading, beside_order, is_tied, last_spots, loose_spots, need_leading,
                                 pieces, product_order, rows_order)
from patchrooms.orders import need_order, part_order, ups
from tests import support

SMALL = [value for n in range(4) for value in support.all_orders(n)]
ORDERS = SMALL + support.all_orders(4)


def greater_orders(seed, count):
    rng = random.Random(seed)
    return [support.random_order(rng, rng.randint(5, 9), rng.choice((0.1, 0.2, 0.4, 0.6))) for _ in range(count)]


def is_not_above(order, x, y):
    return x == y or (x, y) in order[1]


def led_otherwise(one, other, value):
    """The index of the first pair that is led otherwise, or None."""
    for place, (x, y) in enumerate(one[1]):
        if not is_not_above(other, value[x], value[y]):
            return place
    return None


class NeedLeadingTest(unittest.TestCase):

    def test_all_tuples_of_spots(self):
        for one in SMALL[:12] + SMALL[-6:]:
            for other in SMALL:
                for value in itertools.product(range(other[0]), repeat=one[0]):
                    place = led_otherwise(one, other, value)
                    if place is None:
                        self.assertIs(need_leading(one, other, value), value)
                    else:
                        self.assertEqual(support.refused(need_leading, one, other, value), ("NotLeading", place))

    def test_first_wrong_pair(self):
        self.assertEqual(support.refused(need_leading, support.chain(3), support.chain(3), (1, 2, 0)),
                         ("NotLeading", 1))
        self.assertEqual(support.refused(need_leading, support.chain(3), support.chain(3), (0, 2, 1)),
                         ("NotLeading", 2))
        self.assertEqual(support.refused(need_leading, support.VEE, support.antichain(2), (0, 0, 1)),
                         ("NotLeading", 1))

    def test_no_such_tuple(self):
        for value in (None, 0, "ab", (), (0,), (0, 1, 1), [0, 1], {0: 0, 1: 1}, (0, 3), (0, -1), (0, True),
                      (False, 1), (0, 1.0), (0, "1"), (0, None), ((0,), (1,))):
            self.assertEqual(support.refused(need_leading, support.chain(2), support.chain(3), value),
                             ("NotLeading", -1), value)
        # The value is looked at whole, ahead of its pairs.
        self.assertEqual(support.refused(need_leading, support.chain(3), support.chain(3), (1, 0, 3)),
                         ("NotLeading", -1))

    def test_orders_without_spots(self):
        self.assertEqual(need_leading((0, ()), (0, ()), ()), ())
        self.assertEqual(need_leading((0, ()), support.chain(2), ()), ())
        self.assertEqual(support.refused(need_leading, (1, ()), (0, ()), (0,)), ("NotLeading", -1))
        self.assertEqual(support.refused(need_leading, (1, ()), (0, ()), ()), ("NotLeading", -1))


class PutTogetherTest(unittest.TestCase):

    def test_product_by_words(self):
        for one in SMALL:
            for other in SMALL:
                m = other[0]
                spots = range(one[0] * m)
                pairs = tuple((a, b) for a in spots for b in spots if a != b
                              and is_not_above(one, a // m, b // m) and is_not_above(other, a % m, b % m))
                self.assertEqual(product_order(one, other), (one[0] * m, pairs))

    def test_given_product(self):
        self.assertEqual(product_order(support.chain(2), support.antichain(2)), (4, ((0, 2), (1, 3))))
        self.assertEqual(product_order(support.antichain(2), support.chain(2)), (4, ((0, 1), (2, 3))))

    def test_beside_by_words(self):
        self.assertEqual(beside_order(support.chain(2), support.chain(2)), (4, ((0, 1), (2, 3))))
        for one in SMALL:
            for other in SMALL:
                pairs = one[1] + tuple((one[0] + x, one[0] + y) for x, y in other[1])
                self.assertEqual(beside_order(one, other), (one[0] + other[0], pairs))

    def test_just_16_spots_and_more(self):
        self.assertEqual(product_order(support.chain(4), support.antichain(4))[0], 16)
        self.assertEqual(need_order(product_order(support.chain(4), support.chain(4)))[0], 16)
        self.assertEqual(product_order(support.chain(16), (1, ())), support.chain(16))
        self.assertEqual(product_order(support.chain(16), (0, ())), (0, ()))
        # No two orders of up to 16 spots have a product of 17, so 18 is the least that is too great.
        for one, other in ((support.chain(6), support.chain(3)), (support.antichain(3), support.antichain(6)),
                           (support.chain(2), support.chain(9)), (support.chain(16), support.chain(16))):
            self.assertEqual(support.refused(product_order, one, other), ("TooMany", 16))
        self.assertEqual(beside_order(support.chain(9), support.chain(7))[0], 16)
        self.assertEqual(beside_order(support.antichain(16), (0, ())), support.antichain(16))
        self.assertEqual(support.refused(beside_order, support.chain(9), support.chain(8)), ("TooMany", 16))
        self.assertEqual(support.refused(beside_order, (1, ()), support.chain(16)), ("TooMany", 16))

    def test_ups_and_pieces_are_multiplied(self):
        for one in SMALL[::3]:
            for other in SMALL[::2]:
                self.assertEqual(len(ups(beside_order(one, other))), len(ups(one)) * len(ups(other)))
                self.assertEqual(len(pieces(product_order(one, other))), len(pieces(one)) * len(pieces(other)))


class RowsOrderTest(unittest.TestCase):

    def rows_by_words(self, order):
        found = []
        for k in range(order[0] + 1):
            for row in itertools.permutations(range(order[0]), k + 1):
                if all((row[i], row[i + 1]) in order[1] for i in range(k)):
                    found.append(row)
        return found

    def test_by_words(self):
        for order in ORDERS[:150] + [support.chain(4), support.antichain(4)]:
            found = self.rows_by_words(order)
            pairs = tuple((i, j) for i, row in enumerate(found) for j, more in enumerate(found)
                          if len(row) < len(more) and set(row) <= set(more))
            self.assertEqual(rows_order(order), (len(found), pairs))
            need_order(rows_order(order))
            led = last_spots(order)
            self.assertEqual(led, tuple(row[-1] for row in found))
            self.assertIs(need_leading(rows_order(order), order, led), led)

    def test_given(self):
        self.assertEqual(rows_order((0, ())), (0, ()))
        self.assertEqual(last_spots((0, ())), ())
        self.assertEqual(rows_order(support.order(2, (1, 0))), (3, ((0, 2), (1, 2))))
        self.assertEqual(last_spots(support.order(2, (1, 0))), (0, 1, 0))

    def test_just_16_rows_and_more(self):
        just = beside_order(support.chain(4), (1, ()))
        self.assertEqual(rows_order(just)[0], 16)
        self.assertEqual(len(last_spots(just)), 16)
        self.assertEqual(rows_order(support.antichain(16)), support.antichain(16))
        self.assertEqual(rows_order(support.order(14, (0, 1), (2, 3)))[0], 16)
        for order in (beside_order(support.chain(4), support.antichain(2)), support.order(15, (0, 1), (2, 3)),
                      support.order(16, (3, 4)), support.chain(5), support.chain(16)):
            self.assertEqual(support.refused(rows_order, order), ("TooMany", 16))
            self.assertEqual(support.refused(last_spots, order), ("TooMany", 16))

    def test_last_spots_of_what_is_put_together(self):
        one, other = support.order(3, (0, 1), (0, 2)), support.order(2, (1, 0))
        both = beside_order(one, other)
        led = need_leading(rows_order(both), both, last_spots(both))
        self.assertEqual(sorted(led), sorted(last_spots(one) + tuple(3 + x for x in last_spots(other))))


class LooseTest(unittest.TestCase):

    def loose_by_words(self, order):
        found = []
        for x in range(order[0]):
            below = [y for y in range(order[0]) if (y, x) in order[1]]
            if [y for y in below if all(z == y or (z, y) in order[1] for z in below)]:
                found.append(x)
        return tuple(found)

    def bared_by_words(self, order, choose):
        spots = tuple(range(order[0]))
        while True:
            loose = self.loose_by_words(part_order(order, spots))
            if not loose:
                return spots
            spots = tuple(x for k, x in enumerate(spots) if k != choose(loose))

    def test_given(self):
        self.assertEqual(loose_spots((0, ())), ())
        self.assertEqual(loose_spots(support.antichain(3)), ())
        self.assertEqual(loose_spots(support.VEE), (1, 2))
        self.assertEqual(loose_spots(support.ROOF), ())
        self.assertEqual(loose_spots(support.DIAMOND), (1, 2))
        self.assertEqual(loose_spots(support.chain(4)), (1, 2, 3))
        self.assertEqual(bared(support.ROOF), (0, 1, 2))
        self.assertEqual(bared(support.DIAMOND), (0,))
        self.assertEqual(bared((0, ())), ())
        self.assertEqual(bared(support.CROWN), (0, 1, 2, 3))
        self.assertEqual(bared(support.ENN), (0, 1, 2))
        self.assertEqual(bared_leading(support.ENN), (0, 1, 2, 1))
        self.assertEqual(bared_leading(support.chain(3)), (0, 0, 0))
        self.assertEqual(bared_leading((0, ())), ())

    def test_by_words(self):
        for order in ORDERS + greater_orders(1, 150):
            self.assertEqual(loose_spots(order), self.loose_by_words(order))
            left = bared(order)
            self.assertEqual(left, self.bared_by_words(order, min))
            self.assertEqual(loose_spots(part_order(order, left)), ())

    def test_what_is_left_does_not_hang_on_the_sequence(self):
        rng = random.Random(5)
        for order in ORDERS + greater_orders(2, 40):
            for choose in (max, rng.choice):
                self.assertEqual(self.bared_by_words(order, choose), bared(order))

    def test_bared_leading(self):
        for order in ORDERS + greater_orders(3, 150):
            left, led = bared(order), bared_leading(order)
            self.assertIs(need_leading(order, order, led), led)
            for x in range(order[0]):
                below = [y for y in left if is_not_above(order, y, x)]
                greatest = [y for y in below if all(is_not_above(order, z, y) for z in below)]
                self.assertEqual([led[x]], greatest)
            self.assertEqual(tuple(led[x] for x in left), left)

    def test_of_orders_put_together(self):
        for one in SMALL[::2]:
            for other in SMALL[::3]:
                both = beside_order(one, other)
                n = one[0]
                self.assertEqual(bared(both), bared(one) + tuple(n + x for x in bared(other)))
                self.assertEqual(bared_leading(both), bared_leading(one) + tuple(n + x for x in bared_leading(other)))
                self.assertEqual(pieces(both), tuple(sorted(
                    pieces(one) + tuple(tuple(n + x for x in piece) for piece in pieces(other)))))


class PiecesTest(unittest.TestCase):

    def test_given(self):
        self.assertEqual(pieces((0, ())), ())
        self.assertIs(is_tied((0, ())), True)
        self.assertIs(is_tied((1, ())), True)
        self.assertIs(is_tied(support.antichain(2)), False)
        self.assertEqual(pieces(support.antichain(2)), ((0,), (1,)))
        self.assertEqual(pieces(support.order(5, (4, 0), (2, 3), (2, 1))), ((0, 4), (1, 2, 3)))
        self.assertEqual(pieces(support.HEXAGON), (tuple(range(6)),))
        self.assertIs(is_tied(support.HEXAGON), True)
        line = support.order(9, *[(x, x + 1) if x % 2 else (x + 1, x) for x in range(8)])
        self.assertEqual(pieces(line), (tuple(range(9)),))

    def test_by_words(self):
        for order in ORDERS + greater_orders(4, 60):
            lots = [{x} for x in range(order[0])]
            for x, y in order[1]:
                touched = [lot for lot in lots if x in lot or y in lot]
                lots = [lot for lot in lots if lot not in touched] + [set().union(*touched)]
            self.assertEqual(pieces(order), tuple(sorted(tuple(sorted(lot)) for lot in lots)))
            self.assertIs(is_tied(order), len(lots) <= 1)


if __name__ == "__main__":
    unittest.main()
