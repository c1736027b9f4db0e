"""[58]: a desk that stands on a patch."""

import inspect
import random
import unittest

from patchrooms.desk import Desk
from patchrooms.duals import dual_patch
from patchrooms.leadings import bared
from patchrooms.moved import back_patch, forward_patch, gathered_patch
from patchrooms.patches import cut_patch, level_patch, need_patch
from patchrooms.sums import mixed_patch, sum_patch
from tests import slow, support

CHAIN = support.chain(2)
CROWN = support.CROWN
LEVEL = level_patch(5, CROWN, 1)
ALONG = (0, 0, 1, 1)
# A deed of each word that can be done on the level patch of the crown, with what comes of it.
DEEDS = ((("cut", (0, 2, 3)), cut_patch(LEVEL, (0, 2, 3))), (("dual",), dual_patch(LEVEL)), (("bare",), LEVEL),
         (("sum", LEVEL), level_patch(5, CROWN, 2)), (("mixed", level_patch(5, CROWN, 3)), level_patch(5, CROWN, 3)),
         (("forward", CHAIN, ALONG), forward_patch(LEVEL, CHAIN, ALONG)),
         (("gathered", CHAIN, ALONG), gathered_patch(LEVEL, CHAIN, ALONG)),
         (("back", support.chain(3), (1, 1, 3)), back_patch(LEVEL, support.chain(3), (1, 1, 3))))


def made_by_words(patch, deed):
    """What a deed makes of a patch, by the function that is told of it."""
    word, *rest = deed
    if word == "cut":
        return cut_patch(patch, *rest)
    if word == "dual":
        return dual_patch(patch)
    if word == "bare":
        return cut_patch(patch, bared(patch[1]))
    if word == "sum":
        return sum_patch(patch, *rest)
    if word == "mixed":
        return mixed_patch(patch, *rest)
    if word == "forward":
        return forward_patch(patch, *rest)
    if word == "gathered":
        return gathered_patch(patch, *rest)
    return back_patch(patch, *rest)


def state(desk):
    return desk.patch, desk.order, desk.count(), desk.deeds()


def some_deed(rng, patch):
    """A deed that fits the patch, which may be refused for its sizes."""
    prime, order, sizes, _ = patch
    word = rng.choice(("cut", "dual", "bare", "sum", "mixed", "forward", "gathered", "back"))
    if word == "cut":
        return word, tuple(x for x in range(order[0]) if rng.random() < 0.8)
    if word in ("dual", "bare"):
        return (word,)
    if word in ("sum", "mixed"):
        return word, slow.made_patch(rng, prime, order, rng.randint(1, 3))
    if word == "back":
        one = rng.choice(slow.SMALL if order[0] else (slow.EMPTY,))
        return word, one, slow.random_leading(rng, one, order)
    other = rng.choice([value for value in slow.SMALL if value[0] or not order[0]])
    return word, other, slow.random_leading(rng, order, other)


class DeedsTest(unittest.TestCase):

    def test_properties_and_methods(self):
        for name in ("patch", "order"):
            self.assertIsInstance(vars(Desk)[name], property)
        for name, arguments in (("done", ["self", "deed"]), ("undone", ["self"]), ("count", ["self"]),
                                ("deeds", ["self"]), ("trial", ["self", "deeds"])):
            self.assertTrue(inspect.isfunction(vars(Desk)[name]))
            self.assertEqual(list(inspect.signature(vars(Desk)[name]).parameters), arguments)
        most = inspect.signature(Desk).parameters["most"]
        self.assertEqual((most.kind, most.default), (inspect.Parameter.KEYWORD_ONLY, 12))
        self.assertRaises(TypeError, Desk, LEVEL, 5)
        desk = Desk(most=3, patch=LEVEL)
        self.assertEqual(state(desk), (LEVEL, CROWN, 0, ()))
        self.assertIsNone(desk.done(deed=("dual",)))
        self.assertEqual(desk.trial(deeds=()), dual_patch(LEVEL))

    def test_each_deed(self):
        for deed, made in DEEDS:
            desk = Desk(LEVEL)
            self.assertEqual(need_patch(made), made)
            self.assertEqual(desk.trial((deed,)), made)
            self.assertEqual(state(desk), (LEVEL, CROWN, 0, ()))
            self.assertIsNone(desk.done(deed))
            self.assertEqual(state(desk), (made, made[1], 1, (deed,)))
            self.assertTrue(support.is_plain(state(desk)))
            self.assertIsNone(desk.undone())
            self.assertEqual(state(desk), (LEVEL, CROWN, 0, ()))

    def test_sequence_of_sums_and_products(self):
        # The desk's patch is the one, that of the deed the other.
        one = (5, CHAIN, (2, 2), (((1, 2), (0, 1)),))
        other = (5, CHAIN, (2, 1), (((3, 4),),))
        desk = Desk(one)
        desk.done(("sum", other))
        self.assertEqual(desk.patch, sum_patch(one, other))
        self.assertNotEqual(desk.patch, sum_patch(other, one))
        desk.undone()
        desk.done(("mixed", other))
        self.assertEqual(desk.patch, mixed_patch(one, other))
        self.assertNotEqual(desk.patch, mixed_patch(other, one))

    def test_bare(self):
        desk = Desk(level_patch(3, support.DIAMOND, 2))
        desk.done(("bare",))
        self.assertEqual(desk.patch, (3, (1, ()), (2,), ()))

    def test_rows_of_deeds(self):
        rng, seen, refused = random.Random(1), {}, 0
        for n in range(60):
            patch = slow.made_patch(rng, support.PRIMES[n % 6], rng.choice(slow.SMALL), 2)
            most = rng.choice((0, 1, 3, 12, 60))
            desk, past, deeds = Desk(patch, most=most), [], ()
            for _ in range(16):
                deed = some_deed(rng, desk.patch)
                try:
                    made = made_by_words(desk.patch, deed)
                except ValueError as error:
                    before = state(desk)
                    self.assertEqual(support.refused(desk.done, deed), support.told_of(error))
                    self.assertEqual(support.refused(desk.trial, (deed, None)), support.told_of(error))
                    self.assertEqual(state(desk), before)
                    refused += 1
                    continue
                self.assertEqual(desk.trial((deed,)), made)
                past = (past + [(deed, desk.patch)])[-most:] if most else []
                desk.done(deed)
                deeds += (deed,)
                self.assertEqual(state(desk), (made, made[1], len(past), tuple(told for told, _ in past)))
                seen[deed[0]] = seen.get(deed[0], 0) + 1
            # The whole row, tried on a new desk, makes the same, and the new desk stays as it is.
            self.assertEqual(Desk(patch).trial(deeds), desk.patch)
            for deed, before in reversed(past):
                desk.undone()
                self.assertEqual(desk.patch, before)
            self.assertEqual(state(desk)[2:], (0, ()))
            self.assertEqual(support.refused(desk.undone), ("NothingBack",))
        self.assertEqual(len(seen), 8)
        self.assertGreater(min(seen.values()), 15)
        self.assertGreater(refused, 10)


class MostTest(unittest.TestCase):

    def test_forgotten(self):
        for most in (0, 1, 2, 12, 59, 60):
            desk = Desk(LEVEL, most=most)
            deeds = []
            for k in range(70):
                deeds.append(("dual",) if k % 3 else ("cut", (0, 1, 2, 3)))
                desk.done(deeds[-1])
                self.assertEqual(desk.count(), min(k + 1, most))
                self.assertEqual(desk.deeds(), tuple(deeds[-most:]) if most else ())
            stood = desk.patch
            for k in range(most):
                desk.undone()
                self.assertEqual(desk.count(), most - k - 1)
            self.assertEqual(support.refused(desk.undone), ("NothingBack",))
            self.assertEqual(desk.trial(tuple(deeds[70 - most:])), stood)

    def test_twelve_where_none_is_told(self):
        desk = Desk(LEVEL)
        for k in range(20):
            desk.done(("dual",))
        self.assertEqual(desk.count(), 12)
        self.assertEqual(desk.deeds(), (("dual",),) * 12)
        for _ in range(12):
            desk.undone()
        self.assertEqual(support.refused(desk.undone), ("NothingBack",))
        self.assertEqual(desk.patch, LEVEL)

    def test_nothing_back(self):
        desk = Desk(LEVEL, most=0)
        self.assertEqual(support.refused(desk.undone), ("NothingBack",))
        desk.done(("dual",))
        self.assertEqual(support.refused(desk.undone), ("NothingBack",))
        self.assertEqual(state(desk), (dual_patch(LEVEL), dual_patch(LEVEL)[1], 0, ()))

    def test_what_is_told_stays(self):
        desk = Desk(LEVEL)
        desk.done(("dual",))
        told = desk.deeds()
        desk.done(("bare",))
        desk.undone()
        desk.undone()
        self.assertEqual(told, (("dual",),))
        other = Desk(LEVEL)
        self.assertEqual((other.count(), desk.count()), (0, 0))


class RefusalsTest(unittest.TestCase):

    def setUp(self):
        self.desk = Desk(LEVEL)
        self.desk.done(("cut", (0, 1, 2, 3)))

    def refused(self, deed, *expected):
        before, text = state(self.desk), repr(deed)
        self.assertEqual(support.refused(self.desk.done, deed), expected)
        self.assertEqual(support.refused(self.desk.trial, (("dual",), ("dual",), deed, ("dual",))), expected)
        self.assertEqual(support.refused(self.desk.trial, (deed, None)), expected)
        self.assertEqual(state(self.desk), before)
        self.assertEqual(repr(deed), text)

    def test_no_deed_at_all(self):
        for deed in (None, 0, True, "cut", "dual", "", [], ["dual"], ["cut", (0,)], {}, {"dual": 1}, (), b"dual",
                     (None,), (0,), (True,), ("",), ("Dual",), ("dual ",), ("duals",), (("dual",),), (["dual"],),
                     ({"dual": 1},), (b"dual",), ("dual", None), ("dual", ()), ("bare", 1), ("cut",), ("cut", (0,), 1),
                     ("sum",), ("sum", LEVEL, LEVEL), ("mixed",), ("mixed", LEVEL, 0), ("forward", CHAIN),
                     ("forward", CHAIN, ALONG, 1), ("gathered",), ("gathered", CHAIN), ("back", CHAIN),
                     ("back", CHAIN, (0, 2), ()), ("undo",), (1, 2, 3), ("cut", None, None)):
            self.refused(deed, "NotDeed", -1)

    def test_spot_sets(self):
        for spots in (None, 0, "01", [0, 1], {0: 1}, (0, 0), (1, 0), (4,), (-1,), (True,), (0, True), (0, None), (0.0,),
                      ((0,),), ("0",), (0, 1, 2, 3, 4), b"\x00"):
            self.refused(("cut", spots), "NotDeed", 1)
        # The spots are those of the order on which the desk stands.
        self.desk.done(("cut", (0, 2)))
        self.refused(("cut", (0, 2)), "NotDeed", 1)
        self.assertEqual(self.desk.trial((("cut", ()),)), (5, (0, ()), (), ()))

    def test_patches(self):
        for word in ("sum", "mixed"):
            for patch in (None, 0, "patch", (), [], list(LEVEL), LEVEL[:3], (4,) + LEVEL[1:], (True,) + LEVEL[1:],
                          LEVEL[:2] + ((1, 1, 1, True),) + LEVEL[3:], LEVEL[:2] + ((1, 1, 1, 9),) + LEVEL[3:],
                          LEVEL[:3] + (LEVEL[3][:3],), LEVEL[:3] + (LEVEL[3][:3] + (((5,),),),)):
                self.refused((word, patch), "NotDeed", 1)
            # Patches over another order or prime are patches all the same.
            self.refused((word, level_patch(7, CROWN, 1)), "NotFit")
            self.refused((word, level_patch(5, CHAIN, 1)), "NotFit")
        self.refused(("sum", slow.flat(5, CROWN, (8, 8, 8, 8))), "TooMany", 8)
        self.assertEqual(self.desk.trial((("mixed", slow.flat(5, CROWN, (8, 8, 8, 8))),))[2], (8, 8, 8, 8))
        two = Desk(level_patch(5, CROWN, 2))
        self.assertEqual(support.refused(two.done, ("mixed", slow.flat(5, CROWN, (5, 0, 0, 0)))), ("TooMany", 8))
        self.assertEqual(support.refused(two.done, ("mixed", slow.flat(5, CROWN, (8, 8, 8, 8)))), ("TooMany", 40))
        self.assertEqual(support.refused(two.done, ("sum", slow.flat(5, CROWN, (8, 8, 8, 9)))), ("NotDeed", 1))
        self.assertEqual(support.refused(two.done, ("sum", slow.flat(5, CROWN, (8, 8, 8, 8)))), ("TooMany", 8))

    def test_orders_and_leadings(self):
        for word, led in (("forward", ALONG), ("gathered", ALONG), ("back", (0, 2))):
            for order in (None, 2, "2", [], (2,), [2, ((0, 1),)], (2, [(0, 1)]), (True, ()), (2, ((1, 1),)),
                          (2, ((0, 1), (1, 0))), (17, ()), (3, ((0, 1), (1, 2))), (2, ((0, True),))):
                self.refused((word, order, led), "NotDeed", 1)
                # The order is told ahead of the leading.
                self.refused((word, order, None), "NotDeed", 1)
            for wrong in (None, 0, "0011", list(led), (), led[:1], led + (1,), (True,) + led[1:], (9,) + led[1:],
                          (-1,) + led[1:], (None,) + led[1:], (0.0,) + led[1:]):
                self.refused((word, CHAIN, wrong), "NotDeed", 2)
        # Leadings to the other order, and for "back" from it.
        self.refused(("forward", CHAIN, (1, 1, 0, 0)), "NotDeed", 2)
        self.refused(("gathered", CHAIN, (0, 1, 1, 0)), "NotDeed", 2)
        self.refused(("back", CHAIN, (2, 0)), "NotDeed", 2)
        self.refused(("back", CHAIN, (0, 1)), "NotDeed", 2)
        self.refused(("back", CHAIN, ALONG), "NotDeed", 2)
        self.refused(("forward", CHAIN, (0, 2)), "NotDeed", 2)
        self.assertIsNone(self.desk.done(("back", CHAIN, (0, 2))))

    def test_errors_of_functions(self):
        five = Desk(slow.flat(3, support.antichain(2), (8, 8)))
        point = (1, ())
        self.assertEqual(support.refused(five.done, ("forward", point, (0, 0))), ("TooMany", 8))
        self.assertEqual(support.refused(five.done, ("gathered", point, (0, 0))), ("TooMany", 8))
        self.assertEqual(support.refused(five.done, ("back", (6, ()), (0,) * 6)), ("TooMany", 40))
        self.assertEqual(support.refused(five.done, ("forward", support.chain(3), (2, 2))), ("TooMany", 40))
        self.assertEqual(state(five)[2:], (0, ()))

    def test_trial(self):
        for deeds in (None, 0, "dual", [("dual",)], {("dual",): 1}, True, b"", []):
            before = state(self.desk)
            self.assertEqual(support.refused(self.desk.trial, deeds), ("NotDeed", -1))
            self.assertEqual(state(self.desk), before)
        self.assertEqual(self.desk.trial(()), LEVEL)
        # The first deed that is refused is told, also if later ones are refused otherwise.
        self.assertEqual(support.refused(self.desk.trial, (("dual",), ("cut", (7,)), None)), ("NotDeed", 1))
        self.assertEqual(support.refused(self.desk.trial, (None, ("cut", (7,)))), ("NotDeed", -1))
        self.assertEqual(support.refused(self.desk.trial, ("dual",)), ("NotDeed", -1))
        self.assertEqual(support.refused(self.desk.trial, (("cut", (0, 2)), ("sum", LEVEL))), ("NotFit",))
        self.assertEqual(support.refused(self.desk.trial, (("cut", (0, 2)), ("cut", (0, 2)))), ("NotDeed", 1))
        # More deeds than are remembered may be tried.
        self.assertEqual(Desk(LEVEL, most=0).trial((("dual",),) * 61), dual_patch(LEVEL))


if __name__ == "__main__":
    unittest.main()
