"""[2]: names and arguments of the interface, nothing changed, kinds of values returned."""

import importlib
import inspect
import unittest

from tests import support

INTERFACE = {
    "tables": ("times_table(prime, table, column)", "behind_table(prime, one, other, size)",
               "reduced(prime, columns, size)", "kernel(prime, table, size)", "image(prime, table, size)",
               "rank(prime, table)", "solved(prime, table, size, column)", "turned_back(prime, table)"),
    "lots": ("parts_of(prime, basis, column)", "rest_of(prime, basis, column, size)", "within(prime, one, other)",
             "meet(prime, one, other, size)", "join(prime, one, other, size)"),
    "orders": ("need_order(value)", "order_of(n, pairs)", "covers_of(order)", "upside_down(order)",
               "part_order(order, spots)", "rows(order, k)", "height(order)", "up_of(order, x)", "down_of(order, x)",
               "is_up(order, spots)", "ups(order)", "up_hull(order, spots)"),
    "leadings": ("need_leading(one, other, value)", "product_order(one, other)", "beside_order(one, other)",
                 "rows_order(order)", "loose_spots(order)", "bared(order)", "is_tied(order)", "pieces(order)",
                 "bared_leading(order)", "last_spots(order)"),
    "patches": ("patch_breach(value)", "need_patch(value)", "level_patch(prime, order, size)",
                "lone_patch(prime, order, x)", "standing(prime, order, x)", "springing(prime, order, x)",
                "lead(patch, x, y)", "cut_patch(patch, spots)", "size_in_all(patch)"),
    "tellings": ("tellings(patch, spots)", "cut_telling(patch, spots, fewer, telling)",
                 "glued(patch, one, other, first, second)"),
    "maps": ("need_map(one, other, value)", "still_map(patch)", "behind_map(one, other, third, first, second)",
             "map_space(one, other)", "maps_size(one, other)", "kernel_patch(one, other, led)",
             "image_patch(one, other, led)", "rest_patch(one, other, led)", "kernel_map(one, other, led)",
             "image_maps(one, other, led)", "rest_map(one, other, led)",
             "is_exact(one, other, third, first, second)"),
    "splits": ("is_same(one, other)", "same_map(one, other)", "unsplit_sizes(patch)", "unsplit_patches(patch)",
               "split_map(patch, parts)"),
    "sums": ("sum_patch(one, other)", "mixed_patch(one, other)", "maps_patch(one, other)", "outer_patch(one, other)",
             "beside_patch(one, other)"),
    "holes": ("hole_size(patch, k)", "hole_sizes(patch)", "border_of(patch, k, load)", "hole_basis(patch, k)",
              "hole_parts(patch, k, load)", "hole_table(one, other, led, k)", "pieces_size(order)",
              "hole_rank(one, other, led, k)", "connecting_rank(one, other, third, first, second, k)",
              "long_row(one, other, third, first, second)"),
    "products": ("product_load(one, other, i, j, f, g)", "product_rank(one, other, i, j)"),
    "covers": ("need_cover(order, value)", "cover_hole_sizes(patch, cover)", "is_good(patch, cover)",
               "least_cover(order)", "pair_ranks(patch, one, other)", "cover_border(patch, cover, k, load)",
               "load_by_rows(patch, cover, k, load)", "cover_rank(patch, cover, k)"),
    "shares": ("shared_sizes(patch, cover)", "second_sizes(patch, cover)", "nerve_order(order, cover)",
               "is_finer(order, one, other)", "finer_rank(patch, one, other, k)"),
    "counts": ("standing_counts(patch)", "springing_counts(patch)", "near_sizes(patch, x)"),
    "ways": ("ways_size(one, other, k)", "ways_sizes(one, other)", "signs_between(order)"),
    "moved": ("back_patch(patch, one, led)", "forward_patch(patch, other, led)", "gathered_patch(patch, other, led)",
              "moved_map(one, other, led, order, along, way)", "forward_hole_sizes(patch, other, led)",
              "is_tight(prime, one, other, led)"),
    "turning": ("forward_turn(g, f, along, led)", "back_turn(g, f, along, led)", "gathered_turn(f, g, along, led)",
                "apart_turn(f, g, along, led)"),
    "higher": ("forward_holes(patch, other, led, k)", "moved_holes_bound(patch, other, led)"),
    "cutting": ("put_in(patch, order, spots)", "up_row(patch, spots)", "held_patch(patch, spots)",
                "beside_hole_sizes(patch, spots)", "away_map(patch, spots)", "beside_ranks(patch, spots)"),
    "duals": ("dual_patch(patch)", "dual_map(one, other, led)", "low_hole_sizes(patch)", "is_round(prime, order, d)",
              "neighbourhood(order, row)"),
    "facing": ("facing_patch(prime, order, k)", "faces_one_way(prime, order, d)"),
    "signed": ("row_weights(order)", "whole_size(order, count)", "part_size(order, count, spots)",
               "forward_count(order, count, other, led)", "back_count(count, led)", "low_count(order, count)",
               "up_count(order, count)"),
    "traces": ("turned_load(patch, along, led, k, load)", "hole_turn(patch, along, led, k)", "trace(prime, table)",
               "fixed_spots(along, times)", "fixed_traces(patch, along, led)", "round_sizes(order, along, most)"),
    "wayrows": ("need_way_row(value)", "stretches(row)", "through_rank(row, i, j)", "row_patch(row)",
                "sum_row(one, other)", "dual_row(row)", "cut_row(row, i, j)"),
    "straight": ("straight_row(prime, towards, lot)", "is_straightening(row, value)", "straightened(row)",
                 "stretch_maps(towards, one, other)", "row_maps_size(one, other)", "row_ways_size(one, other)"),
    "walks": ("is_still(patch)", "need_walk(order, value)", "walked(patch, walk)", "tree_of_ties(order)",
              "round_rules(order)"),
    "stills": ("still_patch(prime, order, size, tables)", "still_count(prime, order)", "sheet_count(order, n)",
               "sheets(order, n, exchanges)", "sheet_leading(order, n)"),
    "webs": ("web_order(web)", "web_patch(prime, web, sizes, ends)", "border_table(patch_web)",
             "least_load(patch_web, load)", "tie_kinds(patch_web)", "flow_patch(patch_web, kept)",
             "apart_count(patch_web)", "flow_count(patch_web)"),
    "texts": ("order_text(order)", "read_order(text)", "patch_text(patch)", "read_patch(text)")}

CHAIN = (3, ((0, 1), (0, 2), (1, 2)))
PATCH = (5, CHAIN, (1, 2, 1), (((2,), (3,)), ((1,),), ((1, 3),)))
LEVEL = (5, CHAIN, (1, 1, 1), (((1,),), ((1,),), ((1,),)))
LED = (((1,),), ((2,), (3,)), ((1,),))
STILL = (((1,),), ((1, 0), (0, 1)), ((1,),))
TWO = (2, ((0, 1),))
SHORT = (5, TWO, (1, 2), (((2,), (3,)),))
CROWN = (4, ((0, 2), (0, 3), (1, 2), (1, 3)))
BENT = (5, CROWN, (1, 1, 1, 2), (((1,),), ((1,), (2,)), ((1,),), ((1,), (2,))))
EVEN = (5, CROWN, (1, 1, 1, 1), (((1,),),) * 4)
INTO = (((2,),), ((2,),), ((2,),), ((2,), (4,)))
COVER = ((0, 2, 3), (1, 2, 3))
WIDER = ((0, 1, 2, 3), (2, 3))
# The tops of the crown, the crown, and its lows.
TOPS, LOWS = (5, CROWN, (0, 0, 1, 1), (((),),) * 4), (5, CROWN, (1, 1, 0, 0), ((),) * 4)
ROW = (TOPS, EVEN, LOWS, (((),), ((),), ((1,),), ((1,),)), (((1,),), ((1,),), (), ()))
# The crown led to a chain, and maps along this.
ALONG = (0, 0, 1, 1)
DOWN = (5, TWO, (1, 1), (((2,),),))
FROM_BACK, TO_BACK = (((1,),), ((1,),), ((3,),), ((3,),)), (((1,),), ((1,),), ((2,),), ((2,),))
# The crown with its lows exchanged, and what this makes of its level patch.
TURN = ((1, 0, 2, 3), (((2,),), ((1,),), ((3,),), ((4,),)))
FORK = (5, (1, 2, 1), ((1, ((1,), (2,))), (-1, ((3,), (2,)))))
FORK_2 = (5, (2, 1, 0), ((1, ((1, 4),)), (-1, ((),))))
TRIANGLE = (3, ((0, 1), (0, 2), (1, 2)))
TRIANGLE_PATCH = (5, (6, ((0, 3), (0, 4), (1, 3), (1, 5), (2, 4), (2, 5))), (1,) * 6,
                  (((1,),), ((2,),), ((3,),), ((1,),), ((4,),), ((1,),)))
HALF = (5, CROWN, (1,) * 4, (((2,),), ((3,),), ((1,),), ((4,),)))

# For each function arguments, each of its own worth, so that none can stand for another one.
CALLS = {
    "times_table": (5, ((1, 2, 3), (4, 0, 1)), (1, 1, 4)), "behind_table": (5, ((1, 2),), ((3,), (4,)), 2),
    "reduced": (5, ((2, 4, 1), (1, 2, 0)), 3), "kernel": (5, ((1, 2, 3),), 3), "image": (5, ((1, 2, 3), (2, 4, 1)), 3),
    "rank": (5, ((1, 2, 3), (2, 4, 1))), "solved": (5, ((1, 2, 3),), 3, (2,)), "turned_back": (7, ((1, 2), (3, 4))),
    "parts_of": (5, ((1, 2, 0, 4), (0, 0, 1, 3)), (2, 4, 3, 2)),
    "rest_of": (5, ((1, 2, 0, 4), (0, 0, 1, 3)), (2, 0, 3, 0), 4), "within": (3, ((1, 2, 0),), ((1, 0, 0), (0, 1, 0))),
    "meet": (3, ((1, 0, 0), (0, 1, 0)), ((1, 0, 1),), 3), "join": (3, ((1, 0, 0), (0, 1, 0)), ((1, 0, 1),), 3),
    "need_order": (CHAIN,), "order_of": (3, ((1, 2), (0, 1))), "covers_of": (CHAIN,), "upside_down": (CHAIN,),
    "part_order": (CHAIN, (0, 2)), "rows": (CHAIN, 1), "height": (CHAIN,), "up_of": (CHAIN, 1), "down_of": (CHAIN, 1),
    "is_up": (CHAIN, (1, 2)), "ups": (CHAIN,), "up_hull": (CHAIN, (1,)),
    "need_leading": (TWO, CHAIN, (0, 2)), "product_order": (TWO, CHAIN), "beside_order": (TWO, CHAIN),
    "rows_order": (CHAIN,), "loose_spots": (CHAIN,), "bared": (CHAIN,), "is_tied": (CHAIN,), "pieces": (CHAIN,),
    "bared_leading": (CHAIN,), "last_spots": (CHAIN,),
    "patch_breach": (PATCH[:3],), "need_patch": (PATCH,), "level_patch": (5, CHAIN, 2), "lone_patch": (5, CHAIN, 1),
    "standing": (5, CHAIN, 1), "springing": (5, CHAIN, 1), "lead": (PATCH, 0, 1), "cut_patch": (PATCH, (0, 2)),
    "size_in_all": (PATCH,), "tellings": (PATCH, (1, 2)), "cut_telling": (PATCH, (0, 1, 2), (1, 2), (3, 1, 4, 3)),
    "glued": (PATCH, (1, 2), (2,), (1, 4, 3), (3,)),
    "need_map": (LEVEL, PATCH, LED), "still_map": (PATCH,), "behind_map": (LEVEL, PATCH, PATCH, LED, STILL),
    "map_space": (LEVEL, PATCH), "maps_size": (LEVEL, PATCH), "kernel_patch": (LEVEL, PATCH, LED),
    "image_patch": (LEVEL, PATCH, LED), "rest_patch": (LEVEL, PATCH, LED), "kernel_map": (LEVEL, PATCH, LED),
    "image_maps": (LEVEL, PATCH, LED), "rest_map": (LEVEL, PATCH, LED), "is_exact": (LEVEL, PATCH, PATCH, LED, STILL),
    "is_same": (LEVEL, PATCH), "same_map": (PATCH, PATCH), "unsplit_sizes": (PATCH,), "unsplit_patches": (PATCH,),
    "split_map": (PATCH, (LEVEL, (5, CHAIN, (0, 1, 0), (((),), (), ((0,),))))),
    "sum_patch": (LEVEL, PATCH), "mixed_patch": (PATCH, PATCH), "maps_patch": (LEVEL, PATCH),
    "outer_patch": (SHORT, PATCH), "beside_patch": (SHORT, PATCH),
    "hole_size": (BENT, 1), "hole_sizes": (BENT,), "border_of": (BENT, 0, (1, 2, 3, 4, 0)), "hole_basis": (BENT, 1),
    "hole_parts": (BENT, 1, (1, 2, 3, 4, 0, 2)), "hole_table": (EVEN, BENT, INTO, 1), "pieces_size": (CROWN,),
    "hole_rank": (EVEN, BENT, INTO, 1), "connecting_rank": ROW + (0,), "long_row": ROW,
    "product_load": (EVEN, BENT, 0, 1, (1, 2, 3, 4), (1, 2, 3, 4, 0, 2)), "product_rank": (EVEN, BENT, 0, 1),
    "need_cover": (CROWN, COVER), "cover_hole_sizes": (BENT, COVER), "is_good": (BENT, COVER),
    "least_cover": (CROWN,), "pair_ranks": (BENT, (0, 2, 3), (1, 2, 3)), "cover_border": (BENT, COVER, 0, (1, 3)),
    "load_by_rows": (BENT, COVER, 1, (1, 2, 3)), "cover_rank": (BENT, COVER, 1),
    "shared_sizes": (BENT, COVER), "second_sizes": (BENT, COVER), "nerve_order": (CROWN, WIDER),
    "is_finer": (CROWN, COVER, WIDER), "finer_rank": (BENT, COVER, WIDER, 0),
    "standing_counts": (BENT,), "springing_counts": (BENT,), "near_sizes": (BENT, 1),
    "ways_size": (EVEN, BENT, 1), "ways_sizes": (EVEN, BENT), "signs_between": (CROWN,),
    "back_patch": (SHORT, CHAIN, (0, 1, 1)), "forward_patch": (BENT, CHAIN, (0, 1, 2, 2)),
    "gathered_patch": (BENT, CHAIN, (0, 1, 2, 2)), "moved_map": (EVEN, BENT, INTO, TWO, ALONG, "forward"),
    "forward_hole_sizes": (BENT, TWO, ALONG), "is_tight": (5, CROWN, TWO, ALONG),
    "forward_turn": (DOWN, EVEN, ALONG, FROM_BACK), "back_turn": (DOWN, EVEN, ALONG, (((1,),), ((3,), (3,)))),
    "gathered_turn": (EVEN, DOWN, ALONG, TO_BACK), "apart_turn": (EVEN, DOWN, ALONG, (((1, 1),), ((2,),))),
    "forward_holes": (BENT, TWO, (1, 1, 1, 1), 1), "moved_holes_bound": (BENT, TWO, ALONG),
    "put_in": (SHORT, CHAIN, (1, 2)), "up_row": (BENT, (1, 2, 3)), "held_patch": (BENT, (0, 1, 2)),
    "beside_hole_sizes": (BENT, (2, 3)), "away_map": (BENT, (2, 3)), "beside_ranks": (BENT, (1, 2, 3)),
    "dual_patch": (BENT,), "dual_map": (LEVEL, PATCH, LED), "low_hole_sizes": (BENT,), "is_round": (3, CROWN, 1),
    "neighbourhood": (CHAIN, (1,)), "facing_patch": (5, CROWN, 1), "faces_one_way": (5, CROWN, 1),
    "row_weights": (CROWN,), "whole_size": (CROWN, (1, 2, 3, -5)), "part_size": (CROWN, (1, 2, 3, -5), (1, 2)),
    "forward_count": (CROWN, (1, 2, 3, -5), CHAIN, (0, 1, 2, 2)), "back_count": ((7, -8), (1, 0, 1)),
    "low_count": (CROWN, (1, 2, 3, -5)), "up_count": (CROWN, (1, 2, 3, -5)),
    "turned_load": (EVEN,) + TURN + (1, (1, 2, 3, 4)), "hole_turn": (EVEN,) + TURN + (0,), "trace": (5, ((3, 1), (2, 4))),
    "fixed_spots": ((1, 0, 2), 3), "fixed_traces": (EVEN,) + TURN, "round_sizes": (CROWN, (1, 0, 2, 3), 3),
    "need_way_row": (FORK,), "stretches": (FORK,), "through_rank": (FORK, 0, 1), "row_patch": (FORK,),
    "sum_row": (FORK, FORK_2), "dual_row": (FORK,), "cut_row": (FORK, 0, 1),
    "straight_row": (5, (1, -1), ((0, 1, 1), (1, 2, 2))), "is_straightening": (FORK_2, (((1, 0), (4, 1)), ((4,),), ())),
    "straightened": (FORK,), "stretch_maps": ((1, 1), (1, 2), (0, 1)), "row_maps_size": (FORK, FORK_2),
    "row_ways_size": (FORK, FORK_2), "is_still": (HALF,), "need_walk": (CROWN, (0, 2, 1)),
    "walked": (HALF, (0, 2, 1)), "tree_of_ties": (CROWN,), "round_rules": (CHAIN,),
    "still_patch": (5, CROWN, 1, (((3,),),)), "still_count": (5, CROWN), "sheet_count": (CROWN, 3),
    "sheets": (CROWN, 2, ((1, 0),)), "sheet_leading": (CROWN, 2), "web_order": (TRIANGLE,),
    "web_patch": (5, (2, ((0, 1),)), (1, 2, 1), ((((3,),), ((1, 4),)),)), "border_table": (TRIANGLE_PATCH,),
    "least_load": (TRIANGLE_PATCH, (1, 2, 4)), "tie_kinds": (TRIANGLE_PATCH,),
    "flow_patch": (TRIANGLE_PATCH, (True, False, True)), "apart_count": (TRIANGLE_PATCH,),
    "flow_count": (TRIANGLE_PATCH,), "order_text": (CHAIN,), "read_order": ("3: 0<1, 1<2",),
    "patch_text": (PATCH,), "read_patch": ("5; 3: 0<1, 1<2; 1 2 1; 2/3, 1 3",)}


def module(name):
    return importlib.import_module("patchrooms." + name)


def signatures():
    for file, lines in INTERFACE.items():
        for line in lines:
            name, rest = line[:-1].split("(")
            yield file, name, rest.split(", ")


class InterfaceTest(unittest.TestCase):

    def test_names_and_arguments(self):
        self.assertEqual(len(list(signatures())), len(CALLS))
        for file, name, arguments in signatures():
            function = getattr(module(file), name)
            self.assertTrue(inspect.isfunction(function))
            self.assertEqual(function.__module__, "patchrooms." + file, name)
            self.assertEqual(list(inspect.signature(function).parameters), arguments, name)

    def test_arguments_by_name_in_another_sequence(self):
        for file, name, arguments in signatures():
            function, values = getattr(module(file), name), CALLS[name]
            expected = function(*values)
            named = list(zip(arguments, values))
            for shift in range(len(named)):
                self.assertEqual(function(**dict(named[shift:] + named[:shift])), expected, name)
                self.assertEqual(function(**dict((named[shift:] + named[:shift])[::-1])), expected, name)

    def test_nothing_is_changed_and_plain_values_are_returned(self):
        for file, name, _ in signatures():
            values = CALLS[name]
            before = repr(values)
            result = getattr(module(file), name)(*values)
            self.assertTrue(support.is_plain(result), name)
            self.assertEqual(repr(values), before, name)
            # A second call knows nothing of the first one.
            self.assertEqual(getattr(module(file), name)(*values), result, name)

    def test_any_values_are_not_changed(self):
        for name, file, values in (("need_order", "orders", ([2, [[0, 1]]],)),
                                   ("need_order", "orders", ((2, [(0, 1)]),)),
                                   ("need_leading", "leadings", (TWO, CHAIN, [1, 0])),
                                   ("patch_breach", "patches", (list(PATCH),)),
                                   ("need_patch", "patches", (PATCH[:3] + ([[[2], [3]], [[1]], [[1, 3]]],),)),
                                   ("need_map", "maps", (LEVEL, PATCH, [[[1]], [[2], [3]], [[1]]])),
                                   ("need_cover", "covers", (CROWN, [[0, 2, 3], [1, 2, 3]])),
                                   ("need_cover", "covers", (CROWN, ([3, 2, 0], [1, 2, 3]))),
                                   ("need_way_row", "wayrows", ([5, [1, 2, 1], [[1, [[1], [2]]], [-1, [[3], [2]]]]],)),
                                   ("is_straightening", "straight", (FORK, [[[1]], [[1, 0], [0, 1]], [[1]]])),
                                   ("is_straightening", "straight", (FORK, ([[1]], ((1, 0), (0, 1)), ((1,),)))),
                                   ("need_walk", "walks", (CROWN, [0, 2])), ("need_walk", "walks", (CROWN, ([0], 2))),
                                   ("walked", "walks", (HALF, [0, 2])),
                                   ("need_way_row", "wayrows", (FORK[:2] + (([1, [[1], [2]]], FORK[2][1]),),))):
            before = repr(values)
            support.refusal(getattr(module(file), name), *values)
            self.assertEqual(repr(values), before)

    def test_refusals_by_name(self):
        leadings, maps, sums, splits = (module(name) for name in ("leadings", "maps", "sums", "splits"))
        self.assertEqual(support.refused(leadings.need_leading, value=(2, 0), other=CHAIN, one=TWO),
                         ("NotLeading", 0))
        self.assertEqual(support.refused(maps.need_map, value=STILL, other=PATCH, one=LEVEL), ("NotMap", -1))
        self.assertEqual(support.refused(sums.sum_patch, other=SHORT, one=LEVEL), ("NotFit",))
        self.assertEqual(support.refused(splits.is_same, other=SHORT, one=LEVEL), ("NotFit",))
        holes, products, covers, shares = (module(name) for name in ("holes", "products", "covers", "shares"))
        self.assertEqual(support.refused(holes.hole_parts, load=(1, 0, 0, 0, 0), k=0, patch=BENT), ("NotHole",))
        self.assertEqual(support.refused(holes.long_row, second=ROW[4], first=(((),), ((),), ((1,),), ((0,),)),
                                         third=LOWS, other=EVEN, one=TOPS), ("NotExact",))
        self.assertEqual(support.refused(products.product_load, g=(1,), f=(), j=0, i=1, other=SHORT, one=LEVEL),
                         ("NotFit",))
        self.assertEqual(support.refused(covers.need_cover, value=COVER[:1], order=CROWN), ("NotCover", 1))
        self.assertEqual(support.refused(covers.pair_ranks, other=(2,), one=(0, 2, 3), patch=BENT), ("NotCover", 2))
        self.assertEqual(support.refused(shares.finer_rank, k=0, other=COVER, one=WIDER, patch=BENT), ("NotFiner",))
        ways, moved, cutting = (module(name) for name in ("ways", "moved", "cutting"))
        self.assertEqual(support.refused(ways.ways_size, k=0, other=SHORT, one=LEVEL), ("NotFit",))
        self.assertEqual(support.refused(cutting.put_in, spots=(0, 2), order=CHAIN, patch=SHORT), ("NotFit",))
        self.assertEqual(support.refused(cutting.up_row, spots=(0,), patch=BENT), ("NotFit",))
        self.assertEqual(support.refused(moved.back_patch, led=(0,) * 6, one=(6, ()), patch=(5, (1, ()), (8,), ())),
                         ("TooMany", 40))
        facing, wayrows = module("facing"), module("wayrows")
        self.assertEqual(support.refused(facing.faces_one_way, d=0, order=CROWN, prime=3), ("NotRound",))
        self.assertEqual(support.refused(wayrows.need_way_row, value=FORK[:2] + ((None, None),)), ("NotRow", 0))
        self.assertEqual(support.refused(wayrows.sum_row, other=(5, (2,), ()), one=FORK), ("NotFit",))
        walks, stills, webs, texts = (module(name) for name in ("walks", "stills", "webs", "texts"))
        self.assertEqual(support.refused(walks.need_walk, value=(0, 1), order=CROWN), ("NotWalk", 1))
        self.assertEqual(support.refused(walks.walked, walk=(0, 1), patch=HALF), ("NotWalk", 1))
        self.assertEqual(support.refused(walks.walked, walk=(0, 1), patch=BENT), ("NotStill",))
        self.assertEqual(support.refused(stills.sheet_count, n=2, order=(0, ())), ("NotTied",))
        self.assertEqual(support.refused(webs.border_table, patch_web=BENT), ("NotWeb",))
        self.assertEqual(support.refused(texts.read_order, text="3: 0<1,"), ("NotText", 7))
        self.assertEqual(support.refused(texts.read_patch, text="3; 1; 1; 1"), ("NotPatch", "table", -1))
        self.assertEqual(module("moved").moved_map(way="back", along=ALONG, order=CROWN, led=(((3,),), ((3,),)),
                                                   other=DOWN, one=DOWN), (((3,),),) * 4)


if __name__ == "__main__":
    unittest.main()
