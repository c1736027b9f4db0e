"""[1], [3]: columns, tables, reduced bases; tried against all columns of small sizes."""

import random
import unittest

from patchrooms.tables import behind_table, image, kernel, rank, reduced, solved, times_table, turned_back
from tests import support

# Sizes are small enough that all columns can be tried.
SMALL = {2: 5, 3: 4, 5: 3, 7: 2, 11: 2, 13: 2}


def cases(seed, count):
    """(prime, lines, entries, table) with tables of all ranks."""
    rng = random.Random(seed)
    for k in range(count):
        prime = support.PRIMES[k % 6]
        lines, entries = rng.randint(0, SMALL[prime]), rng.randint(0, SMALL[prime])
        inner = rng.randint(0, SMALL[prime])
        one = support.random_table(rng, prime, inner, entries)
        other = support.random_table(rng, prime, lines, inner)
        yield prime, lines, entries, support.matrix_times(prime, one, other, entries)


class TimesTest(unittest.TestCase):

    def test_words_of_the_document(self):
        self.assertEqual(times_table(5, ((1, 2, 3), (4, 0, 1)), (1, 1, 4)), (0, 3))
        self.assertEqual(times_table(13, ((12, 12),), (12, 12)), (2,))
        self.assertEqual(times_table(2, ((1, 1), (1, 0), (0, 0)), (1, 1)), (0, 1, 0))

    def test_no_lines_or_no_entries(self):
        self.assertEqual(times_table(3, (), (1, 2)), ())
        self.assertEqual(times_table(3, ((), ()), ()), (0, 0))
        self.assertEqual(times_table(3, (), ()), ())

    def test_behind_leads_as_one_and_then_other(self):
        self.assertEqual(behind_table(5, ((1, 2),), ((3,), (4,)), 2), ((3, 1), (4, 3)))
        rng = random.Random(1)
        for k in range(120):
            prime = support.PRIMES[k % 6]
            size, between, last = rng.randint(0, 3), rng.randint(0, 3), rng.randint(0, 3)
            one = support.random_table(rng, prime, between, size)
            other = support.random_table(rng, prime, last, between)
            table = behind_table(prime, one, other, size)
            self.assertEqual(table, support.matrix_times(prime, one, other, size))
            column = support.random_column(rng, prime, size)
            self.assertEqual(times_table(prime, table, column),
                             times_table(prime, other, times_table(prime, one, column)))

    def test_behind_a_table_without_lines(self):
        self.assertEqual(behind_table(7, (), ((), ()), 3), ((0, 0, 0), (0, 0, 0)))
        self.assertEqual(behind_table(7, (), (), 3), ())
        self.assertEqual(behind_table(7, ((), ()), ((1, 2), (0, 1)), 0), ((), ()))


class ReducedTest(unittest.TestCase):

    def test_given_columns(self):
        self.assertEqual(reduced(5, ((2, 4, 1), (1, 2, 0)), 3), ((1, 2, 0), (0, 0, 1)))
        self.assertEqual(reduced(2, ((0, 1, 1), (1, 1, 0), (1, 0, 1)), 3), ((1, 0, 1), (0, 1, 1)))
        self.assertEqual(reduced(13, ((0, 5, 10),), 3), ((0, 1, 2),))
        self.assertEqual(reduced(3, ((0, 0, 2), (0, 2, 0), (1, 1, 1)), 3), ((1, 0, 0), (0, 1, 0), (0, 0, 1)))

    def test_no_columns_zeros_and_size_0(self):
        self.assertEqual(reduced(3, (), 4), ())
        self.assertEqual(reduced(3, ((0, 0), (0, 0)), 2), ())
        self.assertEqual(reduced(3, ((), ()), 0), ())
        self.assertEqual(reduced(3, (), 0), ())

    def test_against_all_sums(self):
        rng = random.Random(2)
        for k in range(180):
            prime = support.PRIMES[k % 6]
            size = rng.randint(0, SMALL[prime])
            columns = tuple(support.random_column(rng, prime, size) for _ in range(rng.randint(0, 4)))
            found = reduced(prime, columns, size)
            self.assertTrue(support.is_plain(found))
            self.assertTrue(support.is_reduced(found), (prime, columns))
            self.assertEqual(support.span(prime, found, size), support.span(prime, columns, size))
            self.assertEqual(reduced(prime, columns[::-1] + columns, size), found)


class KernelImageTest(unittest.TestCase):

    def test_given_tables(self):
        self.assertEqual(kernel(5, ((1, 2, 3),), 3), ((1, 0, 3), (0, 1, 1)))
        self.assertEqual(image(5, ((1, 2, 3), (2, 4, 1)), 3), ((1, 2),))
        self.assertEqual(rank(5, ((1, 2, 3), (2, 4, 1))), 1)
        self.assertEqual(kernel(2, ((0, 1, 1), (0, 0, 1)), 3), ((1, 0, 0),))

    def test_tables_without_lines_or_entries(self):
        self.assertEqual(kernel(3, (), 2), ((1, 0), (0, 1)))
        self.assertEqual(image(3, (), 2), ())
        self.assertEqual(rank(3, ()), 0)
        self.assertEqual(kernel(3, ((), ()), 0), ())
        self.assertEqual(image(3, ((), ()), 0), ())
        self.assertEqual(rank(3, ((), ())), 0)
        self.assertEqual(kernel(3, (), 0), ())
        self.assertEqual(image(3, (), 0), ())

    def test_against_all_columns(self):
        for prime, lines, entries, table in cases(3, 180):
            columns = support.all_columns(prime, entries)
            lost, reached = kernel(prime, table, entries), image(prime, table, entries)
            self.assertTrue(support.is_reduced(lost))
            self.assertTrue(support.is_reduced(reached))
            zeros = (0,) * lines
            self.assertEqual(support.span(prime, lost, entries),
                             {column for column in columns if support.times(prime, table, column) == zeros})
            self.assertEqual(support.span(prime, reached, lines),
                             {support.times(prime, table, column) for column in columns})
            self.assertEqual(rank(prime, table), len(reached))
            self.assertEqual(len(lost) + len(reached), entries)

    def test_sizes_of_kernel_and_image_of_greater_tables(self):
        rng = random.Random(4)
        for k in range(60):
            prime = support.PRIMES[k % 6]
            lines, entries, inner = rng.randint(0, 12), rng.randint(0, 12), rng.randint(0, 9)
            table = support.matrix_times(prime, support.random_table(rng, prime, inner, entries),
                                         support.random_table(rng, prime, lines, inner), entries)
            lost, reached = kernel(prime, table, entries), image(prime, table, entries)
            self.assertEqual(len(lost) + len(reached), entries)
            self.assertEqual(len(reached), support.rank_of(prime, table))
            self.assertEqual(rank(prime, table), len(reached))
            self.assertTrue(support.is_reduced(lost))
            for column in lost:
                self.assertFalse(any(support.times(prime, table, column)))


class SolvedTest(unittest.TestCase):

    def test_given_tables(self):
        self.assertEqual(solved(5, ((1, 2, 3),), 3, (2,)), (0, 0, 4))
        self.assertEqual(solved(2, ((1, 0), (1, 0)), 2, (1, 0)), None)
        self.assertEqual(solved(2, ((1, 0), (1, 0)), 2, (1, 1)), (1, 0))
        self.assertEqual(solved(13, ((5,),), 1, (1,)), (8,))

    def test_tables_without_lines_or_entries(self):
        self.assertEqual(solved(3, (), 2, ()), (0, 0))
        self.assertEqual(solved(3, ((), ()), 0, (0, 0)), ())
        self.assertEqual(solved(3, ((), ()), 0, (0, 1)), None)
        self.assertEqual(solved(3, (), 0, ()), ())

    def test_against_all_columns(self):
        for prime, lines, entries, table in cases(5, 60):
            leads = [place for place in support.lead_places(kernel(prime, table, entries))]
            wanted = {}
            for column in support.all_columns(prime, entries):
                if all(column[place] == 0 for place in leads):
                    led = support.times(prime, table, column)
                    self.assertNotIn(led, wanted)
                    wanted[led] = column
            for column in support.all_columns(prime, lines):
                self.assertEqual(solved(prime, table, entries, column), wanted.get(column))


class TurnedBackTest(unittest.TestCase):

    def test_given_tables(self):
        self.assertEqual(turned_back(5, ((2,),)), ((3,),))
        self.assertEqual(turned_back(7, ((1, 2), (3, 4))), ((5, 1), (5, 3)))
        self.assertEqual(turned_back(3, ((0, 1), (1, 0))), ((0, 1), (1, 0)))

    def test_tables_that_cannot_be(self):
        for table in (((0,),), ((1, 1), (1, 1)), ((1, 0),), ((1,), (0,)), ((), ()), ((),),
                      ((1, 0, 0), (0, 1, 0)), ((1, 0), (0, 1), (0, 0)), ((1, 2), (2, 1))):
            self.assertIsNone(turned_back(3, table), table)

    def test_no_lines_is_the_table_with_no_entries(self):
        self.assertEqual(turned_back(2, ()), ())
        self.assertIsNotNone(turned_back(2, ()))

    def test_from_both_sides(self):
        rng = random.Random(6)
        found = 0
        for k in range(180):
            prime = support.PRIMES[k % 6]
            size = rng.randint(0, SMALL[prime])
            table = support.random_table(rng, prime, size, size)
            back = turned_back(prime, table)
            led = {support.times(prime, table, column) for column in support.all_columns(prime, size)}
            self.assertEqual(back is not None, len(led) == prime ** size)
            if back is not None:
                found += 1
                still = support.identity(size)
                self.assertEqual(support.matrix_times(prime, table, back, size), still)
                self.assertEqual(support.matrix_times(prime, back, table, size), still)
                self.assertEqual(turned_back(prime, back), table)
        self.assertGreater(found, 60)

    def test_great_tables(self):
        rng = random.Random(7)
        for prime in support.PRIMES:
            table, back = support.random_invertible(rng, prime, 8)
            self.assertEqual(turned_back(prime, table), back)


if __name__ == "__main__":
    unittest.main()
