"""[23] to [26]: covers by up sets, their loads, holes by them."""

import itertools
import random
import unittest

from patchrooms.covers import (cover_border, cover_hole_sizes, cover_rank, is_good, least_cover, load_by_rows,
                               need_cover, pair_ranks)
from patchrooms.holes import border_of, hole_sizes
from patchrooms.orders import up_of
from patchrooms.patches import level_patch, lone_patch
from patchrooms.tellings import tellings
from tests import slow, support

NONE = (7, slow.EMPTY, (), ())
LEAST = ((0, 2, 3), (1, 2, 3))  # of the crown
THREE = ((0, 3, 4), (1, 4, 5), (2, 3, 5))  # of the hexagon


def level(prime, order):
    return level_patch(prime, order, 1)


def lots(cover, many):
    return list(itertools.combinations(range(len(cover)), many))


def share(cover, lot):
    return tuple(sorted(set(cover[lot[0]]).intersection(*(cover[number] for number in lot))))


def told_by_cover(patch, cover, k, load):
    """The telling that a load, written by parts, tells for each lot."""
    found = {}
    for lot in lots(cover, k + 1):
        basis = tellings(patch, share(cover, lot))
        parts, load = load[:len(basis)], load[len(basis):]
        found[lot] = slow.combined(patch[0], parts, basis, sum(patch[2][x] for x in share(cover, lot)))
    assert load == ()
    return found


def border_by_words(patch, cover, k, told):
    """What the border tells for each lot."""
    found = {}
    for lot in lots(cover, k + 2):
        column = (0,) * sum(patch[2][x] for x in share(cover, lot))
        for j in range(k + 2):
            low = lot[:j] + lot[j + 1:]
            cut = slow.cut_column(patch, share(cover, low), share(cover, lot), told[low])
            column = slow.added(patch[0], column, cut, (-1) ** j)
        found[lot] = column
    return found


def one_column(told):
    return tuple(entry for lot in sorted(told) for entry in told[lot])


def told_units(patch, cover, k):
    """A basis of the loads of the degree k of a cover, as what they tell."""
    zero = {lot: (0,) * sum(patch[2][x] for x in share(cover, lot)) for lot in lots(cover, k + 1)}
    found = []
    for lot in zero:
        every = slow.units(len(zero[lot]))
        for factors in slow.tellings(patch, share(cover, lot)):
            found.append({**zero, lot: slow.combined(patch[0], factors, every, len(every))})
    return found


def sizes_by_words(patch, cover):
    sizes, ranks = [], [0]
    for k in range(len(cover)):
        every = told_units(patch, cover, k)
        sizes.append(len(every))
        ranks.append(support.rank_of(patch[0], [one_column(border_by_words(patch, cover, k, told)) for told in every]))
    return tuple(size - ranks[k] - ranks[k + 1] for k, size in enumerate(sizes))


def exchanges(numbers):
    """How many exchanges of neighbours put them in ascending sequence, by doing them."""
    numbers, many = list(numbers), 0
    while numbers != sorted(numbers):
        for k in range(len(numbers) - 1):
            if numbers[k] > numbers[k + 1]:
                numbers[k], numbers[k + 1] = numbers[k + 1], numbers[k]
                many += 1
    return many


def rows_by_words(patch, cover, k, told):
    """The load by rows that a load of the cover makes."""
    found = ()
    for row in slow.rows(patch[1], k):
        numbers = [min(i for i, spots in enumerate(cover) if x in spots) for x in row]
        column = (0,) * patch[2][row[-1]]
        if len(set(numbers)) == len(numbers):
            lot = tuple(sorted(numbers))
            cut = slow.cut_column(patch, share(cover, lot), (row[-1],), told[lot])
            column = slow.added(patch[0], column, cut, (-1) ** exchanges(numbers))
        found += column
    return found


def closed_by_words(patch, cover, k):
    """A basis of the loads of the cover with the border 0, as what they tell."""
    every = told_units(patch, cover, k)
    columns = [one_column(border_by_words(patch, cover, k, told)) for told in every]
    found = []
    for factors in slow.null_space(patch[0], columns):
        found.append({lot: slow.combined(patch[0], factors, [told[lot] for told in every], len(every[0][lot]))
                      for lot in every[0]})
    return found


def rank_by_words(patch, cover, k):
    if k >= len(cover):
        return 0
    made = [rows_by_words(patch, cover, k, told) for told in closed_by_words(patch, cover, k)]
    return slow.rank_beside(patch[0], made, slow.borders(patch, k))


def has_few(patch, cover):
    return all(sum(len(tellings(patch, share(cover, lot))) for lot in lots(cover, many)) <= 160
               for many in range(1, len(cover) + 1))


def covered(seed, count, most=4, many=2):
    """(patch, cover), some covers good, some not."""
    rng = random.Random(seed)
    found = []
    for patch in slow.made_patches(seed, count, many) + slow.patches(seed, count):
        cover = slow.random_cover(rng, patch[1], most)
        if rng.random() < 0.3 and patch[1][0]:
            lows = [x for x in range(patch[1][0]) if not any(y == x for _, y in patch[1][1])]
            cover = tuple(slow.upper(patch[1], x) for x in rng.sample(lows, len(lows)))
        if len(cover) <= 5 and has_few(patch, cover):
            found.append((patch, cover))
    return found


def shared_tops(many, tops):
    """Five up sets, of which fewer than so many share a spot of the size 0 below all tops: it lets no telling be."""
    lows = lots((None,) * 5, many - 1)
    n = len(lows) + len(tops)
    order = support.order(n, *[(x, y) for x in range(len(lows)) for y in range(len(lows), n)])
    cover = tuple(tuple(x for x, lot in enumerate(lows) if number in lot) + tuple(range(len(lows), n))
                  for number in range(5))
    return slow.flat(2, order, (0,) * len(lows) + tops), cover


class NeedTest(unittest.TestCase):

    def test_covers_are_returned(self):
        for order, cover in ((support.CROWN, LEAST), (support.HEXAGON, THREE), (support.CROWN, ((0, 1, 2, 3),)),
                             (support.CROWN, LEAST + ((), (2, 3), LEAST[0])), (slow.EMPTY, ((),)),
                             (slow.EMPTY, ((),) * 5), (support.VEE, ((), (0, 1, 2))), ((1, ()), ((0,),))):
            self.assertIs(need_cover(order, cover), cover)
        rng = random.Random(1)
        for order in slow.ORDERS * 5:
            cover = slow.random_cover(rng, order)
            self.assertIs(need_cover(order, cover), cover)

    def test_no_tuple_of_1_to_5(self):
        for value in (None, 0, 3, True, "abc", (), [], list(LEAST), {}, dict(enumerate(LEAST)), set(LEAST),
                      LEAST * 3, ((0, 1, 2, 3),) * 6, (None,) * 6, [None]):
            self.assertEqual(support.refused(need_cover, support.CROWN, value), ("NotCover", -1), value)
        self.assertEqual(support.refused(need_cover, slow.EMPTY, ()), ("NotCover", -1))
        self.assertEqual(support.refused(need_cover, slow.EMPTY, ((),) * 6), ("NotCover", -1))

    def test_no_up_set(self):
        whole = (0, 1, 2, 3)
        for wrong in (None, 2, "23", [2, 3], {2, 3}, {2: 3}, (3, 2), (2, 2, 3), (0, 3), (0,), (0, 2), (2, 3, 4),
                      (-1, 2, 3), (2.0, 3), ("2", "3"), (None,), ((2, 3),), (0, 1, 2), (2, 3, True), (False, 2, 3),
                      (0, True, 2, 3), (2, [3]), True, False, 0):
            for place in range(5):
                cover = ((whole,) * place + (wrong,) + (whole,) * 4)[:5]
                self.assertEqual(support.refused(need_cover, support.CROWN, cover), ("NotCover", place), wrong)
            self.assertEqual(support.refused(need_cover, support.CROWN, (wrong,)), ("NotCover", 0), wrong)
            self.assertEqual(support.refused(need_cover, support.CROWN, (whole, wrong, wrong)), ("NotCover", 1))
        self.assertEqual(support.refused(need_cover, slow.EMPTY, ((), (0,))), ("NotCover", 1))
        # An order with a spot 1 alone above a spot 0: True and False are no spots.
        self.assertEqual(support.refused(need_cover, support.chain(2), ((False, True),)), ("NotCover", 0))
        self.assertEqual(support.refused(need_cover, support.chain(2), ((0, 1), (True,))), ("NotCover", 1))

    def test_a_spot_in_none(self):
        for cover in (((0, 2, 3),), ((),), ((), (2, 3)), (LEAST[1],) * 5, ((1, 2, 3), (), (2,), (3,))):
            self.assertEqual(support.refused(need_cover, support.CROWN, cover), ("NotCover", len(cover)))
        # What is no up set is told ahead of a spot in none.
        self.assertEqual(support.refused(need_cover, support.CROWN, ((0, 2, 3), (1,))), ("NotCover", 1))
        self.assertEqual(support.refused(need_cover, (1, ()), ((),)), ("NotCover", 1))


class HoleSizesTest(unittest.TestCase):

    def test_given(self):
        for prime in support.PRIMES:
            self.assertEqual(cover_hole_sizes(level(prime, support.CROWN), LEAST), (1, 1))
            self.assertEqual(cover_hole_sizes(level(prime, support.CROWN), LEAST[::-1]), (1, 1))
            self.assertEqual(cover_hole_sizes(level(prime, support.HEXAGON), THREE), (1, 1, 0))
            self.assertEqual(cover_hole_sizes(level(prime, support.CROWN), ((0, 1, 2, 3),)), (1,))
        sphere = level(3, support.DOUBLE_CROWN)
        self.assertEqual(cover_hole_sizes(sphere, least_cover(support.DOUBLE_CROWN)), (1, 0))
        self.assertEqual(cover_hole_sizes(NONE, ((),)), (0,))
        self.assertEqual(cover_hole_sizes(NONE, ((), ())), (0, 0))
        self.assertEqual(cover_hole_sizes(level_patch(3, support.CROWN, 0), LEAST), (0, 0))
        self.assertEqual(cover_hole_sizes(level_patch(3, support.CROWN, 3), LEAST + ((), LEAST[0], ())),
                         (3, 3, 0, 0, 0))
        self.assertEqual(cover_hole_sizes(level(2, support.antichain(3)), ((0, 1), (1, 2), (0, 2))), (3, 0, 0))

    def test_by_words(self):
        seen = set()
        for patch, cover in covered(1, 100, 5):
            found = cover_hole_sizes(patch, cover)
            self.assertTrue(support.is_plain(found))
            self.assertEqual(found, sizes_by_words(patch, cover))
            seen |= {(patch[0], k) for k, size in enumerate(found) if size}
        self.assertLessEqual({(prime, k) for prime in support.PRIMES for k in (0, 1)}, seen)

    def test_three_up_sets_around_a_hole(self):
        # Four up sets of a skin of the degree 2, each the spots above one of four corners.
        corners = [frozenset(c) for size in (1, 2, 3) for c in itertools.combinations(range(4), size)]
        order = (14, tuple((x, y) for x in range(14) for y in range(14) if corners[x] < corners[y]))
        cover = least_cover(order)
        self.assertEqual(len(cover), 4)
        for prime in support.PRIMES:
            self.assertEqual(cover_hole_sizes(level(prime, order), cover), (1, 0, 1, 0))
            self.assertEqual([cover_rank(level(prime, order), cover, k) for k in range(5)], [1, 0, 1, 0, 0])
            self.assertTrue(is_good(level(prime, order), cover))

    def test_bound(self):
        whole = ((0, 1, 2),) * 5
        just, more = (slow.flat(2, support.antichain(3), sizes) for sizes in ((8, 8, 0), (8, 8, 1)))
        self.assertEqual(cover_hole_sizes(just, whole), (16, 0, 0, 0, 0))
        self.assertEqual(cover_border(just, whole, 0, (0,) * 80), (0,) * 160)
        self.assertEqual(load_by_rows(just, whole, 0, (1,) * 80), (1,) * 16)
        self.assertEqual(cover_rank(just, whole, 0), 16)
        self.assertEqual(support.refused(cover_hole_sizes, more, whole), ("TooMany", 160))
        # Whichever degree is asked.
        for k, size in ((0, 85), (1, 170), (2, 170), (3, 85), (4, 17), (5, 0), (16, 0)):
            self.assertEqual(support.refused(cover_border, more, whole, k, (0,) * size), ("TooMany", 160))
            self.assertEqual(support.refused(load_by_rows, more, whole, k, (0,) * size), ("TooMany", 160))
            self.assertEqual(support.refused(cover_rank, more, whole, k), ("TooMany", 160))
        # Four up sets of 40 have 160 columns in the degree 0, 240 in the degree 1.
        forty = slow.flat(2, support.antichain(5), (8,) * 5)
        self.assertEqual(support.refused(cover_hole_sizes, forty, ((0, 1, 2, 3, 4),) * 4), ("TooMany", 160))
        self.assertEqual(cover_hole_sizes(forty, ((0, 1, 2, 3, 4),) * 3), (40, 0, 0))
        # What three up sets share has many tellings, or what four share, but not what fewer share.
        for many, few, wide in ((3, (8, 8), (8, 8, 1)), (4, (8,) * 4, (8,) * 4 + (1,))):
            for tops, expected in ((few, None), (wide, ("TooMany", 160))):
                patch, cover = shared_tops(many, tops)
                self.assertEqual(support.refused(cover_hole_sizes, patch, cover), expected)
                self.assertEqual(support.refused(cover_border, patch, cover, 0, ()), expected)
                self.assertEqual(support.refused(cover_border, patch, cover, 16, ()), expected)
        # The patch has few loads by rows then; it raises nothing for them.
        self.assertEqual(hole_sizes(more), (17,))

    def test_loads_on_rows_are_not_looked_at(self):
        for patch in (slow.MORE, slow.MORE_2, level(2, support.chain(10))):
            cover = (tuple(range(patch[1][0])),)
            size = len(tellings(patch, cover[0]))
            self.assertEqual(cover_hole_sizes(patch, cover), (size,))
            self.assertEqual(cover_border(patch, cover, 0, (1,) * size), ())
            for k in (0, 1, 16):
                load = (1,) * size if k == 0 else ()
                self.assertEqual(support.refused(load_by_rows, patch, cover, k, load), ("TooMany", 160))
                self.assertEqual(support.refused(cover_rank, patch, cover, k), ("TooMany", 160))
        self.assertEqual(cover_hole_sizes(level(2, support.chain(16)), (tuple(range(16)), (15,))), (1, 0))
        # Just as many loads as may be.
        cover = (tuple(range(9)),)
        self.assertEqual(load_by_rows(slow.JUST, cover, 0, ()), (0,) * 32)
        self.assertEqual([cover_rank(slow.JUST, cover, k) for k in (0, 1)], [0, 0])


class BorderTest(unittest.TestCase):

    def test_given(self):
        crown = level(5, support.CROWN)
        # Tellings on each up set are one number, on what they share two.
        self.assertEqual(cover_border(crown, LEAST, 0, (1, 3)), (2, 2))
        self.assertEqual(cover_border(crown, LEAST, 1, (1, 3)), ())
        self.assertEqual(cover_border(crown, LEAST, 2, ()), ())
        self.assertEqual(cover_border(crown, LEAST, 16, ()), ())
        hexagon = level(5, support.HEXAGON)
        self.assertEqual(cover_border(hexagon, THREE, 0, (1, 2, 4)), (1, 3, 2))
        self.assertEqual(cover_border(hexagon, THREE, 1, (1, 2, 4)), ())
        whole = ((0, 1, 2, 3),) * 3
        self.assertEqual(cover_border(crown, whole, 1, (1, 2, 4)), ((4 - 2 + 1) % 5,))
        self.assertEqual(cover_border(NONE, ((), ()), 0, ()), ())

    def test_by_words(self):
        rng = random.Random(2)
        for patch, cover in covered(2, 80, 5):
            for k in range(len(cover) + 1):
                size = len(told_units(patch, cover, k)) if k < len(cover) else 0
                load = support.random_column(rng, patch[0], size)
                found = cover_border(patch, cover, k, load)
                self.assertTrue(support.is_plain(found))
                expected = border_by_words(patch, cover, k, told_by_cover(patch, cover, k, load))
                self.assertEqual(told_by_cover(patch, cover, k + 1, found), expected)
                self.assertFalse(any(cover_border(patch, cover, k + 1, found)))


class ByRowsTest(unittest.TestCase):

    def test_given(self):
        crown = level(5, support.CROWN)
        self.assertEqual(load_by_rows(crown, LEAST, 0, (2, 3)), (2, 3, 2, 2))
        # The tops are in the first up set: rows from 1 to them tell the numbers 1, 0.
        self.assertEqual(load_by_rows(crown, LEAST, 1, (1, 2)), (0, 0, 4, 3))
        self.assertEqual(load_by_rows(crown, LEAST[::-1], 1, (1, 2)), (4, 3, 0, 0))
        self.assertEqual(load_by_rows(crown, LEAST, 2, ()), ())
        self.assertEqual(load_by_rows(crown, ((0, 1, 2, 3),), 1, ()), (0, 0, 0, 0))
        # A top first: rows to it go from a greater number to a lesser one, to the other top not.
        self.assertEqual(load_by_rows(crown, ((3,), (0, 1, 2, 3)), 1, (2,)), (0, 3, 0, 3))
        # The numbers of the spots are 0, 2, 0, 0.
        self.assertEqual(load_by_rows(crown, ((0, 2, 3), (2,), (0, 1, 2, 3)), 1, (1, 2, 3)), (0, 0, 3, 3))
        self.assertEqual(load_by_rows(NONE, ((),), 0, ()), ())

    def test_by_words(self):
        rng = random.Random(3)
        seen = set()
        for patch, cover in covered(3, 150, 5):
            for k in range(len(cover)):
                load = support.random_column(rng, patch[0], len(told_units(patch, cover, k)))
                found = load_by_rows(patch, cover, k, load)
                self.assertTrue(support.is_plain(found))
                self.assertEqual(found, rows_by_words(patch, cover, k, told_by_cover(patch, cover, k, load)))
                seen |= {k} if any(found) else set()
                # Border and this way in either sequence.
                self.assertEqual(border_of(patch, k, found),
                                 load_by_rows(patch, cover, k + 1, cover_border(patch, cover, k, load)))
        self.assertLessEqual({0, 1, 2}, seen)

    def test_signs_of_rows_of_three(self):
        # A spot above two that are above a third one each in its own up set, in every sequence.
        order = support.chain(3)
        patch = level(5, order)
        for places in itertools.permutations(range(3)):
            cover = [None] * 3
            for spots, place in zip(((2,), (1, 2), (0, 1, 2)), places):
                cover[place] = spots
            expected = rows_by_words(patch, cover, 2, {(0, 1, 2): (2,)})
            self.assertEqual(load_by_rows(patch, tuple(cover), 2, (2,)), expected)
        self.assertEqual(load_by_rows(patch, ((2,), (1, 2), (0, 1, 2)), 2, (2,)), (3,))
        self.assertEqual(load_by_rows(patch, ((1, 2), (2,), (0, 1, 2)), 2, (2,)), (0,))
        four = level(5, support.chain(4))
        self.assertEqual(load_by_rows(four, ((3,), (2, 3), (1, 2, 3), (0, 1, 2, 3)), 3, (2,)), (2,))


class RankTest(unittest.TestCase):

    def test_given(self):
        crown = level(5, support.CROWN)
        self.assertEqual([cover_rank(crown, LEAST, k) for k in (0, 1, 2, 16)], [1, 1, 0, 0])
        self.assertEqual([cover_rank(crown, ((0, 1, 2, 3),), k) for k in (0, 1, 2)], [1, 0, 0])
        self.assertEqual([cover_rank(NONE, ((),), k) for k in (0, 1)], [0, 0])
        self.assertEqual(cover_rank(lone_patch(5, support.ROOF, 2), ((0, 2), (1, 2)), 1), 1)

    def test_by_words(self):
        seen = set()
        for patch, cover in covered(4, 100, 4):
            for k in range(len(cover) + 2):
                found = cover_rank(patch, cover, k)
                self.assertIs(type(found), int)
                self.assertEqual(found, rank_by_words(patch, cover, k))
                seen |= {k} if found else set()
        self.assertLessEqual({0, 1}, seen)

    def test_entries_of_cover_hole_sizes(self):
        rng = random.Random(5)
        less = 0
        for patch, cover in covered(5, 120, 5):
            sizes = cover_hole_sizes(patch, cover)
            good = is_good(patch, cover)
            for k in range(6):
                found = cover_rank(patch, cover, k)
                entry = sizes[k] if k < len(sizes) else 0
                if k <= 1 or good:
                    self.assertEqual(found, entry)
                less += found < entry
                # It does not hang on the sequence in which the cover tells its up sets.
                self.assertEqual(cover_rank(patch, tuple(rng.sample(cover, len(cover))), k), found)

    def test_less_than_the_holes_of_the_cover(self):
        # What all three share is in two pieces, what any two share is not; no row has the length 2.
        patch = level(3, slow.layers(3, 2))
        cover = ((0, 1, 3, 4), (0, 2, 3, 4), (1, 2, 3, 4))
        self.assertEqual(cover_hole_sizes(patch, cover), (1, 0, 1))
        self.assertEqual([cover_rank(patch, cover, k) for k in range(4)], [1, 0, 0, 0])
        self.assertEqual(hole_sizes(patch), (1, 2))


class GoodTest(unittest.TestCase):

    def test_given(self):
        crown = level(2, support.CROWN)
        self.assertIs(is_good(crown, LEAST), True)
        self.assertIs(is_good(crown, ((0, 1, 2, 3),)), False)
        self.assertIs(is_good(crown, LEAST + ((0, 1, 2, 3),)), False)
        self.assertIs(is_good(level(2, support.DOUBLE_CROWN), least_cover(support.DOUBLE_CROWN)), False)
        self.assertIs(is_good(level_patch(2, support.CROWN, 0), ((0, 1, 2, 3),)), True)
        self.assertIs(is_good(NONE, ((),)), True)
        # Good on each up set, not on what they share.
        order = slow.layers(2, 2, 2)
        self.assertIs(is_good(level(2, order), ((0, 2, 3, 4, 5), (1, 2, 3, 4, 5))), False)
        self.assertIs(is_good(lone_patch(2, support.ROOF, 2), ((0, 1, 2),)), False)
        self.assertIs(is_good(lone_patch(2, support.ROOF, 2), ((0, 2), (1, 2))), True)
        self.assertIs(is_good(slow.flat(3, slow.JUST[1], slow.JUST[2]), (tuple(range(9)),)), False)

    def test_by_words(self):
        seen = set()
        for patch, cover in covered(6, 120):
            parts = [slow.cut(patch, share(cover, lot)) for many in range(1, len(cover) + 1)
                     for lot in lots(cover, many)]
            expected = not any(any(slow.hole_sizes(part)[1:]) for part in parts)
            self.assertIs(is_good(patch, cover), expected)
            seen |= {(expected, patch[0])}
        self.assertEqual(len(seen), 12)

    def test_too_many_loads(self):
        for patch in (slow.MORE, slow.MORE_2, level(2, support.chain(10))):
            whole = tuple(range(patch[1][0]))
            self.assertEqual(support.refused(is_good, patch, (whole,)), ("TooMany", 160))
        # Also where all cuts have few loads.
        order = slow.layers(5, 2)
        patch = slow.flat(2, order, (0,) * 5 + (8, 8))
        self.assertIs(is_good(patch, tuple(up_of(order, x) for x in range(5))), True)
        order = support.order(16, *[(x, y) for x in range(5) for y in range(5, 16)])
        patch = slow.flat(2, order, (0,) * 5 + (3,) * 11)
        self.assertEqual(support.refused(is_good, patch, tuple(up_of(order, x) for x in range(5))), ("TooMany", 160))

    def test_sums_with_signs(self):
        for patch, cover in covered(7, 80):
            total = 0
            for k in range(len(cover)):
                for lot in lots(cover, k + 1):
                    total += (-1) ** k * slow.signed(slow.hole_sizes(slow.cut(patch, share(cover, lot))))
            self.assertEqual(total, slow.signed(hole_sizes(patch)))

    def test_holes_by_rows_and_by_covers(self):
        good, less = 0, 0
        for patch, cover in covered(8, 150, 5):
            by_cover, by_rows = cover_hole_sizes(patch, cover), hole_sizes(patch)
            if is_good(patch, cover):
                good += any(by_rows[1:])
                self.assertEqual(slow.trimmed(by_cover), slow.trimmed(by_rows))
            if by_rows:
                self.assertEqual(by_cover[0], by_rows[0])
            first = [sizes[1] if len(sizes) > 1 else 0 for sizes in (by_cover, by_rows)]
            self.assertLessEqual(*first)
            less += first[0] < first[1]
        self.assertGreater(good, 10)
        self.assertGreater(less, 10)


class LeastTest(unittest.TestCase):

    def test_given(self):
        self.assertEqual(least_cover(support.CROWN), LEAST)
        self.assertEqual(least_cover(support.HEXAGON), THREE)
        self.assertEqual(least_cover(slow.EMPTY), ((),))
        self.assertEqual(least_cover((1, ())), ((0,),))
        self.assertEqual(least_cover(support.order(4, (3, 1), (3, 0), (1, 2))), ((0, 1, 2, 3),))
        self.assertEqual(least_cover(support.antichain(5)), ((0,), (1,), (2,), (3,), (4,)))
        self.assertEqual(least_cover(support.chain(16)), (tuple(range(16)),))

    def test_by_words(self):
        rng = random.Random(9)
        for order in slow.ORDERS + tuple(support.random_order(rng, rng.randint(1, 16), 0.3) for _ in range(60)):
            lows = [x for x in range(order[0]) if not any((y, x) in order[1] for y in range(order[0]))]
            if len(lows) > 5:
                self.assertEqual(support.refused(least_cover, order), ("TooMany", 5))
            elif lows:
                self.assertEqual(least_cover(order), tuple(slow.upper(order, x) for x in lows))
                self.assertIsNone(support.refused(need_cover, order, least_cover(order)))

    def test_bound(self):
        self.assertEqual(support.refused(least_cover, support.antichain(6)), ("TooMany", 5))
        self.assertEqual(support.refused(least_cover, support.antichain(16)), ("TooMany", 5))
        self.assertEqual(support.refused(least_cover, slow.layers(6, 1)), ("TooMany", 5))
        self.assertEqual(len(least_cover(slow.layers(5, 11))), 5)


def ranks_by_words(patch, one, other):
    """The ranks of both ways and the connecting one, each from loads."""
    prime = patch[0]
    whole = tuple(range(patch[1][0]))
    both = tuple(x for x in one if x in other)
    found = []
    for k in range(slow.height(patch[1]) + 1):
        first, second, third = (slow.cut(patch, spots) for spots in (one, other, both))
        size = slow.load_size(patch, k)
        closed = [slow.combined(prime, factors, slow.units(size), size) for factors in slow.closed(patch, k)]
        pairs = [slow.cut_load(patch, whole, one, k, load) + slow.cut_load(patch, whole, other, k, load)
                 for load in closed]
        sizes = slow.load_size(first, k), slow.load_size(second, k)
        known = [load + (0,) * sizes[1] for load in slow.borders(first, k)]
        known += [(0,) * sizes[0] + load for load in slow.borders(second, k)]
        apart = []
        for part, spots in ((first, one), (second, other)):
            every = slow.units(slow.load_size(part, k))
            apart += [slow.cut_load(patch, spots, both, k, slow.combined(prime, factors, every, len(every)))
                      for factors in slow.closed(part, k)]
        found.append((slow.rank_beside(prime, pairs, known), slow.rank_beside(prime, apart, slow.borders(third, k)),
                      connecting_by_words(patch, one, other, both, k)))
    return tuple(found)


def connecting_by_words(patch, one, other, both, k):
    """A hole on what is shared, put on as zeros to one: its border there, 0 on what is shared, and zeros on other."""
    prime = patch[0]
    third = slow.cut(patch, both)
    every = slow.units(slow.load_size(third, k))
    found = []
    for factors in slow.closed(third, k):
        told = slow.told_by_rows(third, k, slow.combined(prime, factors, every, len(every)))
        told = {tuple(both[x] for x in row): column for row, column in told.items()}
        part = slow.cut(patch, one)
        spread = ()
        for row in slow.rows(part[1], k):
            row = tuple(one[x] for x in row)
            spread += told.get(row, (0,) * patch[2][row[-1]])
        made = slow.told_by_rows(part, k + 1, slow.border(part, k, spread))
        made = {tuple(one[x] for x in row): column for row, column in made.items()}
        whole = ()
        for row in slow.rows(patch[1], k + 1):
            whole += made.get(row, (0,) * patch[2][row[-1]])
        found.append(whole)
    return slow.rank_beside(prime, found, slow.borders(patch, k + 1))


def random_pair(rng, order):
    """Two up sets that make a cover."""
    one = slow.random_ups(rng, order)
    lost = [x for x in range(order[0]) if x not in one] + [x for x in range(order[0]) if rng.random() < 0.2]
    return one, tuple(y for y in range(order[0]) if any(slow.is_below(order, x, y) for x in lost))


class PairTest(unittest.TestCase):

    def test_given(self):
        for prime in support.PRIMES:
            self.assertEqual(pair_ranks(level(prime, support.CROWN), *LEAST), ((1, 1, 1), (0, 0, 0)))
            whole = (0, 1, 2, 3)
            self.assertEqual(pair_ranks(level(prime, support.CROWN), whole, ()), ((1, 0, 0), (1, 0, 0)))
            self.assertEqual(pair_ranks(level(prime, support.CROWN), whole, whole), ((1, 1, 0), (1, 1, 0)))
        self.assertEqual(pair_ranks(NONE, (), ()), ())
        self.assertEqual(pair_ranks(level(3, support.DOUBLE_CROWN), *least_cover(support.DOUBLE_CROWN)),
                         ((1, 1, 0), (0, 0, 1), (0, 0, 0)))

    def test_by_words(self):
        rng = random.Random(10)
        connecting = 0
        for patch in slow.made_patches(10, 80) + slow.patches(10, 60):
            one, other = random_pair(rng, patch[1])
            found = pair_ranks(patch, one, other)
            self.assertTrue(support.is_plain(found))
            self.assertEqual(found, ranks_by_words(patch, one, other))
            connecting += sum(ranks[2] for ranks in found)
        self.assertGreater(connecting, 20)

    def test_each_rank_and_the_next_one(self):
        rng = random.Random(11)
        for patch in slow.made_patches(11, 60) + slow.patches(11, 60):
            one, other = random_pair(rng, patch[1])
            both = tuple(x for x in one if x in other)
            sizes = []
            parts = [slow.hole_sizes(slow.cut(patch, spots)) + (0,) * 9 for spots in (one, other, both)]
            for k, size in enumerate(hole_sizes(patch)):
                sizes += [size, parts[0][k] + parts[1][k], parts[2][k]]
            ranks = [0] + [rank for ranks in pair_ranks(patch, one, other) for rank in ranks]
            self.assertEqual([a + b for a, b in zip(ranks, ranks[1:])], sizes)

    def test_errors(self):
        crown = level(2, support.CROWN)
        for one, other in (((0, 2, 3), (2, 3)), ((), ()), ((2,), (0, 2, 3)), ((0, 2, 3), (0, 2, 3)), ((), (1, 2, 3))):
            self.assertEqual(support.refused(pair_ranks, crown, one, other), ("NotCover", 2))
        for patch in (slow.MORE, slow.MORE_2):
            whole = tuple(range(patch[1][0]))
            self.assertEqual(support.refused(pair_ranks, patch, whole, ()), ("TooMany", 160))
            self.assertEqual(support.refused(pair_ranks, patch, (), whole), ("TooMany", 160))
            # A spot in neither is told ahead of too many loads.
            self.assertEqual(support.refused(pair_ranks, patch, whole[1:], whole[1:]), ("NotCover", 2))
            self.assertEqual(support.refused(pair_ranks, patch, (), ()), ("NotCover", 2))
        self.assertEqual(pair_ranks(slow.JUST, tuple(range(9)), ()), ((0, 0, 0), (128, 0, 0)))
        # Also where both cuts have few loads.
        order = support.order(16, *[(x, y) for x in range(8) for y in range(8, 16)])
        patch = slow.flat(2, order, (0,) * 8 + (3,) * 8)
        halves = [tuple(range(4)) + tuple(range(8, 16)), tuple(range(4, 16))]
        self.assertTrue(all(slow.most_loads(slow.cut(patch, spots)) <= 160 for spots in halves))
        self.assertEqual(support.refused(pair_ranks, patch, *halves), ("TooMany", 160))


if __name__ == "__main__":
    unittest.main()
