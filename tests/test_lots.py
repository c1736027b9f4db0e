"""[4]: parts and rests, what is in both lots and their sums."""

import random
import unittest

from patchrooms.lots import join, meet, parts_of, rest_of, within
from patchrooms.tables import reduced
from tests import support

SMALL = {2: 5, 3: 4, 5: 3, 7: 3, 11: 2, 13: 2}


def lots(seed, count):
    """(prime, size, one, other): reduced bases of lots that often share something."""
    rng = random.Random(seed)
    for k in range(count):
        prime = support.PRIMES[k % 6]
        size = rng.randint(0, SMALL[prime])
        shared = [support.random_column(rng, prime, size) for _ in range(rng.randint(0, 2))]
        found = []
        for _ in range(2):
            columns = shared + [support.random_column(rng, prime, size) for _ in range(rng.randint(0, 2))]
            found.append(reduced(prime, tuple(columns), size))
        yield prime, size, found[0], found[1]


class PartsTest(unittest.TestCase):

    def test_given_basis(self):
        basis = ((1, 2, 0, 4), (0, 0, 1, 3))
        self.assertEqual(parts_of(5, basis, (2, 4, 3, 2)), (2, 3))
        self.assertEqual(rest_of(5, basis, (2, 4, 3, 2), 4), (0, 0))
        self.assertEqual(rest_of(5, basis, (2, 0, 3, 0), 4), (1, 3))
        self.assertEqual(rest_of(5, basis, (0, 1, 0, 2), 4), (1, 2))

    def test_no_columns_and_size_0(self):
        self.assertEqual(parts_of(5, (), (0, 0)), ())
        self.assertEqual(rest_of(5, (), (3, 1), 2), (3, 1))
        self.assertEqual(parts_of(5, (), ()), ())
        self.assertEqual(rest_of(5, (), (), 0), ())
        self.assertEqual(rest_of(5, ((1, 0), (0, 1)), (3, 1), 2), ())

    def test_parts_tell_the_column(self):
        rng = random.Random(1)
        for prime, size, basis, _ in lots(1, 120):
            parts = support.random_column(rng, prime, len(basis))
            column = tuple(sum(a * column[k] for a, column in zip(parts, basis)) % prime for k in range(size))
            self.assertEqual(parts_of(prime, basis, column), parts)

    def test_rests_are_the_same_exactly_if_the_difference_is_in_the_lot(self):
        rng = random.Random(2)
        for prime, size, basis, _ in lots(2, 120):
            lot = support.span(prime, basis, size)
            leads = support.lead_places(basis)
            for _ in range(6):
                one, other = support.random_column(rng, prime, size), support.random_column(rng, prime, size)
                difference = tuple((a - b) % prime for a, b in zip(one, other))
                rests = rest_of(prime, basis, one, size), rest_of(prime, basis, other, size)
                self.assertEqual(rests[0] == rests[1], difference in lot)
                self.assertEqual(len(rests[0]), size - len(basis))
                near = [v for v in lot if all((a - v[k]) % prime == 0 for k, a in enumerate(one) if k in leads)]
                self.assertEqual(len(near), 1)
                left = [(a - b) % prime for k, (a, b) in enumerate(zip(one, near[0])) if k not in leads]
                self.assertEqual(rests[0], tuple(left))


class BothLotsTest(unittest.TestCase):

    def test_given_lots(self):
        one, other = ((1, 0, 0), (0, 1, 0)), ((1, 0, 1), (0, 1, 1))
        self.assertEqual(meet(3, one, other, 3), ((1, 2, 0),))
        self.assertEqual(join(3, one, other, 3), ((1, 0, 0), (0, 1, 0), (0, 0, 1)))
        self.assertIs(within(3, ((1, 2, 0),), one), True)
        self.assertIs(within(3, ((1, 2, 1),), one), False)
        self.assertIs(within(3, one, ((1, 2, 0),)), False)

    def test_lots_of_zeros_and_size_0(self):
        self.assertEqual(meet(3, (), ((1, 1),), 2), ())
        self.assertEqual(meet(3, ((1, 1),), (), 2), ())
        self.assertEqual(join(3, (), ((1, 1),), 2), ((1, 1),))
        self.assertEqual(join(3, (), (), 2), ())
        self.assertEqual(meet(3, (), (), 0), ())
        self.assertIs(within(3, (), ()), True)
        self.assertIs(within(3, (), ((1, 1),)), True)
        self.assertIs(within(3, ((1, 1),), ()), False)

    def test_against_all_sums(self):
        for prime, size, one, other in lots(3, 180):
            first, second = support.span(prime, one, size), support.span(prime, other, size)
            both, sums = meet(prime, one, other, size), join(prime, one, other, size)
            self.assertTrue(support.is_reduced(both))
            self.assertTrue(support.is_reduced(sums))
            self.assertEqual(support.span(prime, both, size), first & second)
            self.assertEqual(support.span(prime, sums, size), support.span(prime, one + other, size))
            self.assertEqual(within(prime, one, other), first <= second)
            self.assertEqual(len(both) + len(sums), len(one) + len(other))

    def test_numbers_of_columns_of_greater_lots(self):
        rng = random.Random(4)
        for k in range(60):
            prime = support.PRIMES[k % 6]
            size = rng.randint(6, 14)
            one, other = (reduced(prime, tuple(support.random_column(rng, prime, size)
                                               for _ in range(rng.randint(0, size))), size) for _ in range(2))
            both, sums = meet(prime, one, other, size), join(prime, one, other, size)
            self.assertEqual(len(both) + len(sums), len(one) + len(other))
            self.assertEqual(len(sums), support.rank_of(prime, one + other))
            self.assertTrue(within(prime, both, one) and within(prime, both, other))
            self.assertTrue(within(prime, one, sums) and within(prime, other, sums))


if __name__ == "__main__":
    unittest.main()
