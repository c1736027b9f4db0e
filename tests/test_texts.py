"""[57]: texts of orders and patches."""

import functools
import random
import re
import unittest

from patchrooms.orders import covers_of
from patchrooms.patches import level_patch, need_patch, patch_breach
from patchrooms.texts import order_text, patch_text, read_order, read_patch
from tests import slow, support

NUMBER = "(?:0|[1-9][0-9]*)"
SIGNS = "0123456789:<,; -/x"
# Texts whose ends, put behind a beginning of a text, make a text of it if anything does.
ENDS = ("11; 1: 0<0, 0<0; 0 0; 0 0/0 0, -", "2; 0; ; ", "11; 1; 0; 0, 0", "2; 1: 0<0; ; ")


def tails(texts):
    return tuple(sorted({text[k:] for text in texts for k in range(len(text) + 1)}, key=len))


ORDER_TAILS = tails(("1: 0<0, 0<0",))
PATCH_TAILS = tails(ENDS)


def is_number(text, most):
    return re.fullmatch(NUMBER, text, re.ASCII) is not None and int(text) <= most


def told_order(text):
    """(n, pairs) by form, or None."""
    n, colon, rest = text.partition(": ")
    if not is_number(n, 16):
        return None
    pairs = []
    for pair in rest.split(", ") if colon else ():
        spots = pair.split("<")
        if len(spots) != 2 or not all(is_number(spot, int(n) - 1) for spot in spots):
            return None
        pairs.append((int(spots[0]), int(spots[1])))
    return None if len(pairs) > 120 else (int(n), tuple(pairs))


def told_table(text):
    if text == "-":
        return ()
    lines = [line.split(" ") for line in text.split("/")]
    if len(lines) > 8 or any(len(line) > 8 for line in lines):
        return None
    if not all(is_number(entry, 12) for line in lines for entry in line):
        return None
    return tuple(tuple(map(int, line)) for line in lines)


def told_patch(text):
    """(prime, order, sizes, tables) by form, or None."""
    parts = text.split("; ")
    if len(parts) != 4 or parts[0] not in [str(prime) for prime in support.PRIMES]:
        return None
    order = told_order(parts[1])
    sizes = parts[2].split(" ") if parts[2] else []
    tables = [told_table(table) for table in parts[3].split(", ")] if parts[3] else []
    if order is None or len(sizes) > 16 or not all(re.fullmatch("[0-8]", size, re.ASCII) for size in sizes):
        return None
    if None in tables or len(tables) > 120:
        return None
    return int(parts[0]), order, tuple(map(int, sizes)), tuple(tables)


@functools.lru_cache(maxsize=None)
def begins(text, of_patch):
    """Whether some text begins so."""
    if of_patch:
        return any(told_patch(text + tail) is not None for tail in PATCH_TAILS)
    return any(told_order(text + tail) is not None for tail in ORDER_TAILS)


def wrong_place(text, of_patch):
    """The length of the longest beginning with which some text begins; None for a text."""
    if (told_patch if of_patch else told_order)(text) is not None:
        return None
    low, high = 0, len(text) + 1
    while high - low > 1:
        middle = (low + high) // 2
        low, high = (middle, high) if begins(text[:middle], of_patch) else (low, middle)
    return low


def is_order_told(order):
    n, pairs = order
    return all(x != y for x, y in support.closed(n, pairs))


def paths(order, x, z):
    """All ways of covers from x to z."""
    if x == z:
        return [(x,)]
    return [(x,) + path for low, y in covers_of(order) if low == x and slow.is_below(order, y, z)
            for path in paths(order, y, z)]


def expected_of(text):
    """What reading the text of a patch gives: (the patch, None) or (None, the refusal)."""
    place = wrong_place(text, True)
    if place is not None:
        return None, ("NotText", place)
    prime, (n, pairs), sizes, tables = told_patch(text)
    if not is_order_told((n, pairs)):
        return None, ("NotOrder", "chain")
    order = (n, support.closed(n, pairs))
    if len(sizes) != n or sum(sizes) > 40:
        return None, ("NotPatch", "sizes", -1)
    covers = covers_of(order)
    if len(tables) != len(covers):
        return None, ("NotPatch", "table", -1)
    leads = {}
    for (x, y), table in zip(covers, tables):
        if not sizes[x] or not sizes[y]:
            fits = table == ()
            table = ((),) * sizes[y]
        else:
            fits = len(table) == sizes[y] and all(len(line) == sizes[x] and max(line) < prime for line in table)
        if not fits:
            return None, ("NotPatch", "table", order[1].index((x, y)))
        leads[x, y] = table
    made = []
    for x, z in order[1]:
        path, table = min(paths(order, x, z)), support.identity(sizes[x])
        for a, b in zip(path, path[1:]):
            table = support.matrix_times(prime, table, leads[a, b], sizes[x])
        made.append(table)
    patch = (prime, order, sizes, tuple(made))
    breach = patch_breach(patch)
    return (None, ("NotPatch",) + breach) if breach else (patch, None)


def changes(rng, text, many):
    """The text with single signs left out, put in, exchanged, put in another place, and cut off at each place."""
    found = [text[:k] for k in range(len(text))]
    found += [text[:k] + text[k + 1:] for k in range(len(text))]
    for _ in range(many):
        k, sign = rng.randint(0, len(text)), rng.choice(SIGNS)
        found += [text[:k] + sign + text[k:], text[:k] + sign + text[k + 1:]]
    found += [text[:k] + text[k + 1] + text[k] + text[k + 2:] for k in range(len(text) - 1)]
    return found


class OrderTest(unittest.TestCase):

    def test_given(self):
        for text, order in (("4: 0<2, 0<3, 1<2, 1<3", support.CROWN), ("0", (0, ())), ("1", (1, ())), ("16", (16, ())),
                            ("3: 0<1, 1<2", support.chain(3)), ("3: 0<1, 0<2", support.VEE),
                            ("12: 9<10, 10<11", support.order(12, (9, 10), (10, 11)))):
            self.assertEqual(order_text(order), text)
            self.assertEqual(read_order(text), order)

    def test_there_and_back(self):
        rng = random.Random(1)
        orders = list(slow.ORDERS + slow.HOLED) + [support.random_order(rng, rng.randint(0, 16)) for _ in range(60)]
        for order in orders + [support.chain(16), slow.layers(8, 8)]:
            text = order_text(order)
            self.assertTrue(support.is_plain(text))
            self.assertEqual(told_order(text), (order[0], covers_of(order)))
            self.assertEqual(read_order(text), order)

    def test_pairs_in_any_sequence(self):
        self.assertEqual(read_order("3: 1<2, 0<1"), support.chain(3))
        self.assertEqual(read_order("3: 0<2, 1<2, 0<1, 0<1, 1<2"), support.chain(3))
        self.assertEqual(read_order("16: 15<0"), (16, ((15, 0),)))
        pairs = [f"{x}<{y}" for x in range(16) for y in range(x + 1, 16)]
        self.assertEqual(len(pairs), 120)
        self.assertEqual(read_order("16: " + ", ".join(pairs)), support.chain(16))
        self.assertEqual(read_order("2: " + ", ".join(["0<1"] * 120)), support.chain(2))

    def test_no_orders(self):
        for text in ("1: 0<0", "2: 0<1, 1<0", "3: 0<1, 1<2, 2<0", "4: 0<1, 3<3", "2: " + ", ".join(["0<1", "1<1"] * 60)):
            self.assertEqual(support.refused(read_order, text), ("NotOrder", "chain"))
        # What is no text is told ahead of that.
        self.assertEqual(support.refused(read_order, "2: 0<1, 1<0,"), ("NotText", 12))

    def test_places_given(self):
        for text, place in (("", 0), (" ", 0), ("x", 0), ("-1", 0), ("00", 1), ("01", 1), ("17", 1), ("160", 2), ("9 ", 1),
                            ("16:", 3), ("4:0<1", 2), ("4: ", 3), ("4:  0<1", 3), ("4: 4<0", 3), ("4: 0<4", 5),
                            ("4: 0<", 5), ("4: 0", 4), ("4: 00<1", 4), ("4: 0<01", 6), ("4: 0 <1", 4), ("4: 0<1,", 7),
                            ("4: 0<1, ", 8), ("4: 0<1 ", 6), ("4: 0<1,1<2", 7), ("4: 0<1; 1<2", 6), ("0:", 1),
                            ("0: 0<0", 1), ("16: 16<0", 5), ("16: 15<16", 8), ("10: 10<1", 5), ("11: 10<1", None),
                            ("4 : 0<1", 1), ("4: 0<1\n", 6), ("\u0664", 0), ("1\u0661", 1), ("4: 0<\u0661", 5),
                            ("4: 0>1", 4), ("4: 0<1, 0<1, 9", 13), ("4: 12", 4), ("12: 12", 5), ("1: 1", 3)):
            self.assertEqual(wrong_place(text, False), place, text)
            self.assertEqual(support.refused(read_order, text), None if place is None else ("NotText", place), text)

    def test_more_pairs_than_120(self):
        text = "2: " + ", ".join(["0<1"] * 120)
        for more in (",", ", ", ", 0<1", ", 0<1, 0<1", "x", " "):
            self.assertEqual(support.refused(read_order, text + more), ("NotText", len(text)))
        text = "16: " + ", ".join(["10<11"] * 120)
        self.assertEqual(read_order(text), (16, ((10, 11),)))
        self.assertEqual(support.refused(read_order, text + ", 10<11"), ("NotText", len(text)))

    def test_changed_texts(self):
        rng, seen = random.Random(2), set()
        texts = ["4: 0<2, 0<3, 1<2, 1<3", "0", "1", "16", "13: 12<0, 0<10, 11<12", "3: 0<1, 1<2, 0<2", "10: 9<8"]
        texts += [order_text(support.random_order(rng, rng.randint(3, 16), 0.2)) for _ in range(4)]
        for text in texts:
            for changed in changes(rng, text, 120):
                place = wrong_place(changed, False)
                found = support.refused(read_order, changed)
                if place is not None:
                    self.assertEqual(found, ("NotText", place), changed)
                elif not is_order_told(told_order(changed)):
                    self.assertEqual(found, ("NotOrder", "chain"), changed)
                else:
                    n, pairs = told_order(changed)
                    self.assertEqual(read_order(changed), (n, support.closed(n, pairs)))
                seen.add(found and found[0])
        self.assertEqual(seen, {None, "NotText", "NotOrder"})


class PatchTest(unittest.TestCase):

    def test_given(self):
        patch = (3, support.VEE, (1, 2, 0), (((1,), (2,)), ()))
        text = "3; 3: 0<1, 0<2; 1 2 0; 1/2, -"
        self.assertEqual(patch_text(patch), text)
        self.assertEqual(read_patch(text), patch)
        for text, patch in (("2; 0; ; ", (2, (0, ()), (), ())), ("13; 1; 8; ", (13, (1, ()), (8,), ())),
                            ("11; 2; 0 3; ", (11, (2, ()), (0, 3), ())),
                            ("13; 2: 0<1; 2 2; 12 0/1 11", (13, support.chain(2), (2, 2), (((12, 0), (1, 11)),))),
                            ("5; 2: 0<1; 0 2; -", (5, support.chain(2), (0, 2), (((), ()),))),
                            ("5; 2: 0<1; 2 0; -", (5, support.chain(2), (2, 0), ((),))),
                            ("5; 2: 0<1; 0 0; -", (5, support.chain(2), (0, 0), ((),))),
                            ("7; 3: 0<1, 1<2; 1 1 1; 3, 4",
                             (7, support.chain(3), (1, 1, 1), (((3,),), ((5,),), ((4,),))))):
            self.assertEqual(patch_text(patch), text)
            self.assertEqual(read_patch(text), patch)

    def test_there_and_back(self):
        patches = support.patches(3, 120, orders=slow.ORDERS, springs=5) + slow.made_patches(3, 60)
        patches += [level_patch(prime, order, 1) for prime in support.PRIMES
                    for order in (support.chain(16), slow.layers(8, 8), (16, ()), slow.halved_cube())]
        for patch in patches:
            text = patch_text(patch)
            self.assertTrue(support.is_plain(text))
            told = told_patch(text)
            self.assertEqual((told[0], told[1], told[2]), (patch[0], (patch[1][0], covers_of(patch[1])), patch[2]))
            self.assertEqual(read_patch(text), patch)
            self.assertEqual(expected_of(text), (patch, None))

    def test_other_texts_of_orders(self):
        # All pairs are told, one of them twice; tables are those of covers alone.
        self.assertEqual(read_patch("7; 3: 1<2, 0<2, 0<1, 1<2; 1 1 1; 3, 4"), read_patch("7; 3: 0<1, 1<2; 1 1 1; 3, 4"))

    def test_places_given(self):
        for text, place in (("", 0), ("1", 1), ("4", 0), ("12; ", 1), ("17", 1), ("2", 1), ("2;", 2), ("2;0", 2),
                            ("2: 0", 1), ("23", 1), ("11; ", 4), ("2; 0", 4), ("2; 0;", 5), ("2; 0; ", 6),
                            ("2; 0; ;", 7), ("2; 0;  ; ", 6), ("2; 0; ; x", 8), ("2; 0; 0; ", None), ("2; 0: 0<0", 4),
                            ("2; 17", 4), ("2; 1; 9; ", 6), ("2; 1; 10; ", 7), ("2; 1; 1 ; ", 8), ("2; 1; 1  1", 8),
                            ("2; 1; 1; -, ", 12), ("2; 1; 1; -,-", 11), ("2; 1; 1; - ", 10), ("2; 1; 1; 13", 10),
                            ("2; 1; 1; 01", 10), ("2; 1; 1; 12", None), ("2; 1; 1; 1/", 11), ("2; 1; 1; 1 /1", 11),
                            ("2; 1; 1; 1//1", 11), ("2; 1; 1; --", 10), ("2; 1; 1; 1-", 10), ("2; 1; 1; -1", 10),
                            ("2; 1; 1; 1/-", 11), ("2; 1; 1; 1; 1", 10), ("2; 1; 1; 1 2/3", None), (" 2; 0; ; ", 0),
                            ("2; 1; -1; ", 6), ("2; 2: 0<1, 0<2; ", 13), ("2; 2: 0<1 0<1", 9), ("2; 1; \u0661", 6),
                            ("2; 1; 1; \u0661", 9), ("2; 1; 1; 1 \u0661", 11), ("2; 0; ; \n", 8)):
            self.assertEqual(wrong_place(text, True), place, text)
            if place is not None:
                self.assertEqual(support.refused(read_patch, text), ("NotText", place), text)

    def test_numbers_of_things_by_form(self):
        sixteen = " ".join(["1"] * 16)
        self.assertEqual(read_patch("2; 16; " + sixteen + "; "), (2, (16, ()), (1,) * 16, ()))
        self.assertEqual(support.refused(read_patch, "2; 16; " + sixteen + " 1; "), ("NotText", 7 + len(sixteen)))
        # Whatever the number of spots is.
        self.assertEqual(support.refused(read_patch, "2; 1; " + sixteen + "; "), ("NotPatch", "sizes", -1))
        eight = " ".join(["0"] * 8)
        text = "2; 2: 0<1; 8 8; " + "/".join([eight] * 8)
        self.assertEqual(read_patch(text), (2, support.chain(2), (8, 8), (support.zero_table(8, 8),)))
        self.assertEqual(support.refused(read_patch, text + " 0"), ("NotText", len(text)))
        self.assertEqual(support.refused(read_patch, text + "/0"), ("NotText", len(text)))
        self.assertEqual(support.refused(read_patch, "2; 2: 0<1; 8 8; 0/" + eight + " 0"), ("NotText", 18 + len(eight)))
        text = "2; 1; 1; " + ", ".join(["-"] * 120)
        self.assertEqual(support.refused(read_patch, text), ("NotPatch", "table", -1))
        for more in (",", ", ", ", -"):
            self.assertEqual(support.refused(read_patch, text + more), ("NotText", len(text)))
        text = "2; 2: " + ", ".join(["0<1"] * 120)
        self.assertEqual(read_patch(text + "; 1 1; 1"), level_patch(2, support.chain(2), 1))
        self.assertEqual(support.refused(read_patch, text + ", 0<1; 1 1; 1"), ("NotText", len(text)))

    def test_refusals_in_turn(self):
        for text, refusal in (
                ("2; 1: 0<0; 1 1; -, ", ("NotText", 19)), ("2; 1: 0<0; 1 1; -", ("NotOrder", "chain")),
                ("2; 2: 0<1, 1<0; 8 8 8 8 8 8; ", ("NotOrder", "chain")),
                ("2; 2: 0<1; 1; 1", ("NotPatch", "sizes", -1)), ("2; 2: 0<1; 1 1 1; 1", ("NotPatch", "sizes", -1)),
                ("2; 2: 0<1; ; 1", ("NotPatch", "sizes", -1)), ("2; 0; 0; ", ("NotPatch", "sizes", -1)),
                ("2; 6; 8 8 8 8 8 1; ", ("NotPatch", "sizes", -1)), ("2; 6; 8 8 8 8 8 0; ", None),
                ("2; 6; 8 8 8 8 8 1; 1", ("NotPatch", "sizes", -1)),
                ("2; 2: 0<1; 1 1; ", ("NotPatch", "table", -1)), ("2; 2: 0<1; 1 1; 1, 1", ("NotPatch", "table", -1)),
                ("2; 2; 1 1; 1", ("NotPatch", "table", -1)), ("2; 0; ; -", ("NotPatch", "table", -1)),
                ("2; 2: 0<1; 1 1; -", ("NotPatch", "table", 0)), ("2; 2: 0<1; 1 1; 1 1", ("NotPatch", "table", 0)),
                ("2; 2: 0<1; 1 1; 1/1", ("NotPatch", "table", 0)), ("2; 2: 0<1; 1 1; 2", ("NotPatch", "table", 0)),
                ("3; 2: 0<1; 1 1; 2", None), ("2; 2: 0<1; 0 1; 0", ("NotPatch", "table", 0)),
                ("2; 2: 0<1; 1 0; 0", ("NotPatch", "table", 0)), ("2; 2: 0<1; 2 2; 1 0/1", ("NotPatch", "table", 0)),
                ("2; 2: 0<1; 2 2; 1 0/0 1/1", ("NotPatch", "table", 0)),
                # Indexes are those among all pairs: (0, 1), (0, 2), (1, 2).
                ("5; 3: 0<1, 1<2; 1 1 1; 1, 5", ("NotPatch", "table", 2)),
                ("5; 3: 0<1, 1<2; 1 1 1; 5, 5", ("NotPatch", "table", 0)),
                # From 0 to 3 by 1, which is less than 2: then 2 gives another table.
                ("5; 4: 0<1, 0<2, 1<3, 2<3; 1 1 1 1; 1, 2, 1, 4", ("NotPatch", "ways", 2)),
                ("5; 4: 0<1, 0<2, 1<3, 2<3; 1 1 1 1; 1, 2, 4, 2", None)):
            self.assertEqual(support.refused(read_patch, text), refusal, text)
            self.assertEqual(expected_of(text)[1], refusal, text)

    def test_ways_by_covers(self):
        # Of ways that do not agree the index hangs on which way is taken as the table.
        rng, seen = random.Random(4), set()
        for _ in range(150):
            order = support.random_order(rng, rng.randint(4, 7), 0.5)
            prime, sizes = rng.choice(support.PRIMES), [rng.randint(0, 2) for _ in range(order[0])]
            tables = []
            for x, y in covers_of(order):
                table = support.random_table(rng, prime, sizes[y], sizes[x])
                tables.append("/".join(" ".join(map(str, line)) for line in table) if sizes[x] and sizes[y] else "-")
            text = "; ".join((str(prime), order_text(order), " ".join(map(str, sizes)), ", ".join(tables)))
            patch, refusal = expected_of(text)
            self.assertEqual(support.refused(read_patch, text), refusal)
            if patch:
                self.assertEqual(read_patch(text), patch)
                self.assertEqual(need_patch(patch), patch)
            seen.add(refusal)
        self.assertIn(None, seen)
        self.assertGreater(len(seen), 5)

    def test_changed_texts(self):
        rng, seen = random.Random(5), set()
        texts = ["3; 3: 0<1, 0<2; 1 2 0; 1/2, -", "2; 0; ; ", "13; 1; 8; ", "13; 2: 0<1; 2 2; 12 0/1 11",
                 "7; 3: 0<1, 1<2; 1 1 1; 3, 4", "11; 4: 0<1, 0<2, 1<3, 2<3; 1 1 1 0; 1, 2, -, -"]
        texts += [patch_text(patch) for patch in support.patches(5, 4, springs=3, orders=slow.SMALL)]
        for text in texts:
            for changed in changes(rng, text, 100):
                patch, refusal = expected_of(changed)
                self.assertEqual(support.refused(read_patch, changed), refusal, changed)
                if patch:
                    self.assertEqual(read_patch(changed), patch)
                seen.add(refusal and refusal[:2] if refusal and refusal[0] == "NotPatch" else refusal and refusal[0])
        self.assertGreaterEqual(seen, {None, "NotText", "NotOrder", ("NotPatch", "sizes"), ("NotPatch", "table")})


if __name__ == "__main__":
    unittest.main()
