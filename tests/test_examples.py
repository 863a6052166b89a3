"""The examples that stand behind the points of the document."""

import unittest

from sideswaps.blocks import block_orders, blocks, jump_bars, jump_size, jumps_lead
from sideswaps.book import SwapBook, is_step
from sideswaps.bookpairs import book_within, books_alike, books_tried, explaining, outside_words, parting_words
from sideswaps.books import cheapest_book, cheapest_plan, least_books, lie_book
from sideswaps.classes import bar, classes_of, comes, first_word, is_bar, last_word, leads_to, parted_by, road
from sideswaps.closures import beyond_one, firm_one, within_one
from sideswaps.farthest import dearest, farthest_word, spread, spread_of
from sideswaps.farroads import family_parting, family_price, family_word, far_cheapest, far_lie
from sideswaps.farwords import far_done, far_length, far_parting, far_swapped, far_word, is_far, letter_after, letter_at
from sideswaps.farwords import plain_far, star_runs
from sideswaps.fewest import cheapest, fewest_deeds, lie_value, lies, lots, one_deed_less, price_line
from sideswaps.jointnumbers import done_by_numbers, done_by_numbers_often, numbers_of, numbers_order, numbers_parting
from sideswaps.jointnumbers import road_of
from sideswaps.jumproads import jump_fewest, jump_road
from sideswaps.jumps import is_let_road, let_places, shuffle
from sideswaps.lengths import classes_by_size, first_words, how_many_classes, how_many_pairs
from sideswaps.lines import line_of, of_line, right_part
from sideswaps.machines import Machine, closed_joints, first_barred, first_let, how_many_let, least_machine, led_out, lets
from sideswaps.machines import road_into
from sideswaps.means import how_many_with, letters_at, mean_of
from sideswaps.mirrors import cheapest_mirrored, comes_mirrored, mirrored_size
from sideswaps.numbering import first_from, how_many_ahead, next_word, word_numbered
from sideswaps.oftens import done_often, ever_places, moves_often, order_of, places_often, times_needed, word_order
from sideswaps.programs import done_by, fewest_places, first_program, how_many_programs, joined_program, joint_places
from sideswaps.programs import moves_of, parting_by, programs_alike, undone
from sideswaps.rings import is_alone, is_star_ring, one_deed, ring_turns, star_ring
from sideswaps.roads import cheapest_road, first_deeds, how_many_cheapest, is_cheapest_road, road_along
from sideswaps.sizes import class_size, class_words, parts_by
from sideswaps.trainroads import first_train_deeds, is_cheapest, lie_lots, lie_values, train_distance, train_price
from sideswaps.trainroads import train_road
from sideswaps.trains import are_alike, first_train, how_many_lists, how_many_trains, is_train, is_train_road, train_back
from sideswaps.trains import train_deeds, train_done, train_parting, train_ring, train_swapped, train_text, trains_of
from sideswaps.words import back_road, done, is_ahead, is_joints, is_prices, is_road, is_word, joints_of, moved
from sideswaps.words import open_places, passed, price_of, swapped


class ExamplesTest(unittest.TestCase):
    def test_words(self):
        told = [is_word(""), is_word("aB"), is_joints("yx"), is_joints(""), is_prices([("x", 3), ("y", 1)]),
                is_prices([("x", 0)]), is_ahead("zz", "aaa")]
        self.assertEqual(told, [True, False, False, True, True, False, True])
        told = [joints_of([("x", 3), ("y", 1)]), open_places("axbyc", "xy"), swapped("axbc", "x", 1),
                is_road("axbyc", "xy", [1, 1]), is_road("axbyc", "xy", [0])]
        self.assertEqual(told, ["xy", [1, 3], "bcxa", True, False])
        told = [done("axbyc", "xy", [1, 1]), passed("axbyc", "xy", [1, 1]), back_road(5, [1, 1]),
                done("cxayb", "xy", [3, 3])]
        self.assertEqual(told, ["cxayb", ["axbyc", "bycxa", "cxayb"], [3, 3], "axbyc"])
        told = [price_of("axbyc", [("x", 3), ("y", 1)], [1, 1]), moved("axbyc", "xy", [1, 1]), moved("ab", "", [])]
        self.assertEqual(told, [4, [4, 1, 0, 3, 2], [0, 1]])

    def test_rings_and_classes(self):
        told = [star_ring("abxc", "x"), star_ring("cxab", "x"), star_ring("xay", "xy"), ring_turns("xay", "xy"),
                ring_turns("axa", "x"), ring_turns("xy", "xy"), is_star_ring("a*")]
        self.assertEqual(told, ["*ab*c", "*ab*c", "***a", 1, 2, 3, False])
        told = [one_deed("xay", "xy"), is_alone("axa", "x"), is_alone("xxx", "x"), is_alone("axb", "x"),
                is_alone("", "x")]
        self.assertEqual(told, [["ayx", "yxa"], True, True, False, True])
        told = [comes("abxc", "cxab", "x"), bar("abxc", "cxab", "x"), bar("abxc", "baxc", "x"), bar("ax", "ay", "xy"),
                is_bar("ax", "ay", "xy", ("joint", "y", 0, 1))]
        self.assertEqual(told, [True, None, ("ring", "*ab*c", "*ba*c"), ("joint", "x", 1, 0), True])
        told = [road("abxc", "cxab", "x"), leads_to("xay", "xya", "xy", [2, 0]), road("abxc", "baxc", "x"),
                first_word("yxa", "xy"), last_word("xay", "xy")]
        self.assertEqual(told, [[2], False, None, "axy", "yxa"])
        told = [classes_of(["ax", "by", "xa", "ax", "yb"], "xy"), parted_by("axy", "ayx", "xy"),
                parted_by("ax", "xa", "x"), parted_by("a", "b", "x")]
        self.assertEqual(told, [[[0, 2, 3], [1, 4]], None, ("", "a"), ("", "")])

    def test_classes_counted(self):
        told = [class_size("xay", "xy"), class_size("xax", "x"), class_size("xy", "xy"), class_size("ab", ""),
                class_words("xay", "xy"), parts_by("xay", "xy", "x"), parts_by("xy", "xy", "x"),
                parts_by("xay", "xy", "")]
        self.assertEqual(told, [6, 3, 2, 1, ["axy", "ayx", "xay", "xya", "yax", "yxa"], 3, 1, 6])
        told = [how_many_ahead("xay", "xy", "xay"), how_many_ahead("xay", "xy", "b"), how_many_ahead("xay", "xy", "zzzz"),
                word_numbered("xay", "xy", 3), next_word("xay", "xy"), next_word("yxa", "xy"),
                first_from("xay", "xy", "b")]
        self.assertEqual(told, [2, 0, 6, "xya", "xya", None, "axy"])
        told = [how_many_with("xay", "xy", 0, "a"), how_many_with("xay", "xy", 1, "y"), letters_at("xax", "x", 0),
                mean_of("xay", "xy", "xy"), mean_of("xay", "xy", "b")]
        self.assertEqual(told, [2, 2, [("a", 1), ("x", 2)], (1, 3), (0, 1)])
        told = [how_many_classes("ax", "x", 2), how_many_classes("abx", "x", 2), classes_by_size("abx", "x", 2),
                how_many_pairs("abx", "x", 2), how_many_classes("ab", "", 9)]
        self.assertEqual(told, [3, 7, [(1, 5), (2, 2)], 13, 512])
        self.assertEqual(first_words("abx", "x", 2), ["aa", "ab", "ax", "ba", "bb", "bx", "xx"])

    def test_fewest(self):
        fees = [("x", 3), ("y", 5)]
        told = [lies("axby", "byxa", "xy"), lies("axa", "axa", "x"), lies("axby", "bayx", "xy"), lies("x", "ax", "x")]
        self.assertEqual(told, [[2], [0, 2], [], []])
        told = [lots("axby", "byxa", fees, 2), lie_value("axby", "byxa", fees, 2), lots("axby", "aybx", fees, 0),
                lie_value("axby", "aybx", fees, 0)]
        self.assertEqual(told, [["_x"], 3, ["xy"], 11])
        told = [cheapest("axby", "aybx", fees), fewest_deeds("axby", "aybx", "xy"), cheapest("axby", "axby", fees),
                cheapest("ab", "ba", fees), one_deed_less("axby", "aybx", fees, 0)]
        self.assertEqual(told, [11, 3, 0, None, [1]])
        told = [price_line("axby", "aybx", fees, "x"), price_line("axby", "byxa", fees, "y")]
        self.assertEqual(told, [[(1, 7, 2), (5, 15, 1)], [(1, 3, 0)]])
        fees = [("q", 1), ("w", 5), ("x", 1), ("y", 1), ("z", 1)]
        self.assertEqual(price_line("axxzwayyq", "ayyzwaxxq", fees, "x"), [(1, 5, 2), (2, 7, 1), (3, 8, 0)])

    def test_roads(self):
        fees = [("x", 3), ("y", 5)]
        told = [cheapest_road("axby", "aybx", fees), road_along("axby", "aybx", fees, 0), first_deeds("axby", "aybx", fees),
                first_deeds("axby", "aybx", [("x", 1), ("y", 1)])]
        self.assertEqual(told, [[1, 1, 0], [1, 1, 0], [1], [1, 3]])
        told = [is_cheapest_road("axby", "byxa", fees, [1]), is_cheapest_road("axby", "axby", fees, [1, 2]),
                cheapest_road("ab", "ab", fees), cheapest_road("ab", "ba", fees)]
        self.assertEqual(told, [True, False, [], None])
        told = [how_many_cheapest("axby", "aybx", fees), how_many_cheapest("axby", "aybx", [("x", 1), ("y", 1)]),
                how_many_cheapest("xyz", "yxz", [("x", 1), ("y", 1), ("z", 1)])]
        self.assertEqual(told, [1, 2, 2])

    def test_farthest(self):
        fees = [("x", 3), ("y", 5)]
        told = [spread("axby", "xy"), spread("axa", "x"), spread("xxxyy", "xy"), spread("xyxyx", "xy"), spread_of(2),
                spread_of(4)]
        self.assertEqual(told, [[1, 2, 2, 1], [1], [1, 4, 5], [1, 3, 6], [1, 2, 2, 1], [1, 4, 12, 30, 44, 26, 3]])
        self.assertEqual([dearest("axby", fees), dearest("axa", [("x", 1)]), farthest_word("axby", fees)], [11, None, "aybx"])
        told = [dearest("axbxcydye", [("x", 1), ("y", 1)]), dearest("axbxc", [("x", 2)]), spread("axbxc", "x"),
                dearest("ab", fees)]
        self.assertEqual(told, [5, 2, [1, 2], 0])

    def test_trains(self):
        told = [is_train([""]), is_train([]), train_text(["ab", "c"]), first_train(["b", "a", ""]),
                are_alike(["a", "b"], ["b", "a"])]
        self.assertEqual(told, [True, False, "ab_c_", ["", "b", "a"], True])
        told = [train_swapped(["ab", "c"], "abc", (0, 1, 1)), train_swapped(["ab", "c"], "abc", (0, 1, 0)),
                train_back(["ab", "c"], "abc", (0, 1, 1)), train_deeds(["ab", "c"], "b")]
        self.assertEqual(told, [["cba", ""], ["a", "bc"], (0, 1, 0), [(0, 1, 0), (0, 1, 1)]])
        told = [is_train_road(["ab"], "b", [(0, 1, 0), (0, 1, 0)]), train_done(["axb", "c"], "x", [(0, 1, 1), (0, 1, 0)]),
                train_ring(["axb", "c"], "x")]
        self.assertEqual(told, [False, ["c", "axb"], "*a*b*c"])
        told = [train_parting(["a", "b"], ["ab"], "ab"), train_parting(["ab", "c"], ["ac", "b"], ""),
                train_parting(["ax", ""], ["ay", ""], "xy"), train_parting(["a", "b"], ["ab", ""], "a")]
        self.assertEqual(told, [("cars", 2, 1), ("ring", "*ab*c", "*ac*b"), ("joint", "x", 1, 0), None])
        told = [how_many_trains(["axb", "c"], "x"), how_many_lists(["axb", "c"], "x"), how_many_trains(["x", "x"], "x"),
                trains_of(["x", "x"], "x")]
        self.assertEqual(told, [3, 6, 2, [["", "xx"], ["x", "x"]]])

    def test_train_roads(self):
        prices, one, other = [("a", 1), ("b", 5)], ["ab", ""], ["ba", ""]
        told = [lie_values(one, other, prices), lie_lots(one, other, prices, 0), train_distance(one, other, prices),
                first_train_deeds(one, other, prices)]
        self.assertEqual(told, [[7, 1, 6, 5], ["ab"], 1, [(0, 0, 0)]])
        told = [is_cheapest(one, other, prices, train_road(one, other, prices)), train_price(one, prices, [(0, 0, 0)]),
                train_distance(["a"], ["a", ""], prices), first_train_deeds(one, one, prices)]
        self.assertEqual(told, [True, 1, None, []])

    def test_books(self):
        told = [least_books("abc", "cba"), least_books("abc", "bca"), least_books("abc", "abd"), least_books("aab", "aab"),
                least_books("", "")]
        self.assertEqual(told, [["b", "ac"], ["a", "bc"], [], [""], [""]])
        told = [[lie_book("abc", "cba", lie) for lie in range(4)],
                cheapest_book("abc", "cba", [("a", 1), ("b", 5), ("c", 1)])]
        self.assertEqual(told, [["ac", "abc", "b", "abc"], (2, "ac")])
        fees, prices = [("a", 1), ("b", 5), ("c", 1)], [("a", 1), ("b", 1), ("c", 1)]
        told = [cheapest_plan("abc", "cba", fees, prices), cheapest_plan("abc", "cba", fees, [("b", 9)]),
                cheapest_plan("abc", "cba", fees, [("a", 3)])]
        self.assertEqual(told, [(5, "ac"), (14, "b"), None])

    def test_book_pairs_and_mirrors(self):
        told = [books_tried([("abc", "cba")], [("abc", "bca")]), explaining([("abc", "cba")], [("abc", "bca")]),
                books_tried([("ab", "ac")], [])]
        self.assertEqual(told, [[("b", None), ("ac", 0)], ["b"], []])
        told = [books_alike("a", "b", "ab", 2), books_alike("a", "b", "ab", 10 ** 20), parting_words("a", "b", "ab", 3),
                outside_words("b", "a", "ab", 3)]
        self.assertEqual(told, [True, False, ("aab", "aba"), ("abb", "bab")])
        told = [book_within("a", "ac", "abc", 7), comes_mirrored("abcd", "dcba", "", "a"), mirrored_size("abcd", "", "a"),
                mirrored_size("abcd", "", "x")]
        self.assertEqual(told, [True, True, 2, 1])
        told = [cheapest_mirrored("abc", "cba", [("b", 4)], [("a", 3)]), cheapest_mirrored("abc", "cba", [("b", 3)], [("a", 3)]),
                cheapest_mirrored("ab", "ba", [], [])]
        self.assertEqual(told, [(3, 1), (3, 0), None])

    def test_machines_and_closures(self):
        even, starts = Machine("ax", [[1, 0], [0, 1]], [0]), Machine("ax", [[1, 2], [1, 1], [2, 2]], [1])
        told = [lets(even, "axa"), lets(starts, "xa"), lets(starts, "ab"),
                least_machine(Machine("ax", [[2, 1], [1, 1], [2, 2]], [2])) == starts]
        self.assertEqual(told, [True, False, False, True])
        told = [closed_joints(even), led_out(even, "ax"), closed_joints(starts), led_out(starts, "x"), led_out(starts, "a"),
                led_out(starts, "z")]
        self.assertEqual(told, ["ax", None, "", ("ax", 1), ("ax", 0), None])
        told = [how_many_let(starts, "xaax", "x"), first_let(starts, "xaax", "x"), first_barred(starts, "xaax", "x"),
                first_let(starts, "xx", "x"), road_into(starts, "xaax", "x", 3)]
        self.assertEqual(told, [1, "aaxx", "xaax", None, [0]])
        some, firm = Machine("ax", [[1, 0], [1, 1]], [1]), Machine("ax", [[1, 2], [1, 0], [2, 2]], [1])
        told = [within_one(starts, "x") == some, firm_one(starts, "x") == firm, led_out(some, "x"), led_out(firm, "x"),
                within_one(starts, "ax") == some, firm_one(even, "ax") == even]
        self.assertEqual(told, [True, True, None, None, True, True])
        told = [beyond_one(some, starts, "x"), beyond_one(even, starts, "x"), beyond_one(some, firm, "ax"),
                within_one(starts, "") == starts]
        self.assertEqual(told, [None, "", "ax", True])

    def test_programs(self):
        told = [moves_of(4, [1]), moves_of(4, [1, 0]), done_by("abcd", [1]), done_by("abcd", [1, 0]), moves_of(3, [])]
        self.assertEqual(told, [[2, 3, 1, 0], [3, 1, 0, 2], "cdba", "dbac", [0, 1, 2]])
        told = [parting_by(3, [0], [2]), parting_by(3, [0, 0, 0], []), undone(4, [1, 0]), joint_places(4, [1, 0]),
                joint_places(4, [1, 2])]
        self.assertEqual(told, ["aab", None, [3, 2], [1, 2], [1]])
        told = [fewest_places([0, 1, 2]), fewest_places([2, 1, 0]), first_program([2, 1, 0]), fewest_places([1, 0, 2]),
                joined_program(3, [0], [0])]
        self.assertEqual(told, [0, 1, [1], 2, [2]])
        told = [how_many_programs([0, 1, 2]), how_many_programs([1, 0, 2]), how_many_programs([1, 0, 2, 3]),
                programs_alike(3, [[0], [], [2, 2], [1, 1]])]
        self.assertEqual(told, [1, 2, 4, [[0, 2], [1, 3]]])
        told = [order_of(4, [1]), order_of(5, [1]), order_of(5, [2]), moves_often(5, [2], 10 ** 20),
                done_often("abcde", [1], 5), word_order("aabaa", [2])]
        self.assertEqual(told, [4, 6, 2, [0, 1, 2, 3, 4], "edabc", 1])
        told = [places_often(5, [2], 7), places_often(5, [1], 1), ever_places(5, [1]), times_needed(5, [1])]
        self.assertEqual(told, [[2], [1], [1, 3], 2])

    def test_number_lists(self):
        told = [done_by_numbers("axbyc", "xy", [0]), done_by_numbers("axbyc", "xy", [1, 1]),
                road_of("axbyc", "xy", [0, 1]), numbers_of("axbyc", "xy", [1, 1])]
        self.assertEqual(told, ["bycxa", "bxcya", [1, 3], [0, 0]])
        told = [done_by_numbers_often("aaxbbxcc", "x", [0], 10 ** 20 + 1), numbers_parting("xy", 2, [0], [1]),
                numbers_parting("ab", 2, [0], [1]), numbers_parting("x", 2, [0, 0, 0], [])]
        self.assertEqual(told, ["ccxaaxbb", "axx", "aac", None])
        told = [numbers_parting("xy", 3, [0], [1]), numbers_order(2, [0]), numbers_order(3, [1]), numbers_order(4, [1, 0])]
        self.assertEqual(told, ["xxy", 6, 2, 15])

    def test_jumps(self):
        far = "uvwxaayazaa"
        told = [let_places("xyz", "xyz", [1]), let_places("axby", "xy", [2]), is_let_road("xyz", "xyz", [1], [0, 0]),
                is_let_road("xyz", "xyz", [1], [1])]
        self.assertEqual(told, [[0, 2], [1], True, False])
        told = [shuffle(4, [1]), shuffle(5, [2]), shuffle(5, [1, 3]), shuffle(5, [1, 2]), shuffle(7, [2, 4]), shuffle(3, [7])]
        self.assertEqual(told, [("round", 4), ("round", 6), ("even", 60), ("all", 120), ("all", 24), ("none", 1)])
        told = [blocks("xyz", "xyz", [1]), blocks("xyz", "xyz", [1, 2]), blocks("axb", "x", [1]), blocks(far, "uvwxyz", [2, 3])]
        self.assertEqual(told, [[([0, 1, 2, 3], "round")], [([0, 1, 2, 3], "all")], [],
                                [([0, 1, 2, 3, 6, 8, 11], "seven")]])
        told = [jump_size("xyz", "xyz", [1]), jump_size("xyz", "xyz", [1, 2]), jump_size("xxy", "xy", [1, 2]),
                jump_size(far, "uvwxyz", [2, 3]), block_orders("xyz", "xyz", [1], 0)]
        self.assertEqual(told, [3, 6, 3, 840, [["x", "y", "z"], ["y", "z", "x"], ["z", "x", "y"]]])
        told = [jumps_lead("xyz", "yzx", "xyz", [1]), jumps_lead("xyz", "xzy", "xyz", [1]), jump_bars("axb", "bxa", "x", [1])[0]]
        self.assertEqual(told, [True, False, (0, "bodies", [0, 2])])
        told = [is_let_road("xyz", "xyz", [1], jump_road("xyz", "yzx", "xyz", [1])), jump_fewest("xyz", "yxz", "xyz", [1, 2])]
        self.assertEqual(told, [True, 2])

    def test_far_words(self):
        many = 10 ** 29
        far, back = [("a", many), ("b", many)], [("b", many), ("a", many)]
        told = [is_far([("a", 0)]), is_far([("a", -1)]), far_length(far) == 2 * many, letter_at(far, many),
                plain_far([("a", 2), ("b", 0), ("a", 1)]), far_word([("a", 2), ("b", 1)])]
        self.assertEqual(told, [True, False, True, "b", [("a", 3)], "aab"])
        told = [far_swapped(far, "b", many) == back, far_swapped([("x", 2), ("a", 1)], "x", 0),
                far_done([("a", 1), ("x", 2)], "x", [1, 0]), letter_after(far, 0, many, 0),
                letter_after([("a", 1), ("b", 1), ("c", 3)], 1, 3, 0)]
        self.assertEqual(told, [True, [("x", 1), ("a", 1), ("x", 1)], [("x", 1), ("a", 1), ("x", 1)], "b", "a"])
        told = [star_runs([("a", 2), ("x", 3), ("b", 1)], "x"), star_runs(far, "ab") == [("*", 2 * many + 1)]]
        self.assertEqual(told, [[("*", 3), ("b", 1), ("*", 1), ("a", 2)], True])
        told = [far_parting(far, back, "b"), far_parting([("a", many), ("b", 1)], [("a", many), ("c", 1)], "bc"),
                far_parting([("a", 1), ("b", 2)], [("b", 1), ("a", 1), ("b", 1)], "")]
        self.assertEqual(told, [None, ("joint", "b", 1, 0),
                                ("ring", [("*", 1), ("a", 1), ("b", 2)], [("*", 1), ("b", 1), ("a", 1), ("b", 1)])])

    def test_far_roads(self):
        many, prices = 10 ** 29, [("a", 1), ("b", 1)]
        far, back = [("a", many), ("b", many)], [("b", many), ("a", many)]
        told = [far_cheapest(far, back, prices) == (1, many),
                far_lie(far, back, prices, 0) == (2 * many + 1, [("a", many), ("b", many)], ["ab"]),
                far_lie(far, back, prices, many + 1)]
        self.assertEqual(told, [True, True, (1, [("b", 1)], ["_b"])])
        up, down = [("a", 0, 1), ("b", 0, 1), ("c", 0, 1)], [("c", 0, 1), ("b", 0, 1), ("a", 0, 1)]
        told = [family_word(up, 2), family_parting(up, down, "ac"), family_parting(up, down, "abc"),
                family_price(up, down, [("a", 1), ("b", 1), ("c", 1)])]
        self.assertEqual(told, [[("a", 2), ("b", 2), ("c", 2)], None, None, (1, 1, 2)])

    def test_lines_and_a_book(self):
        told = [line_of([("x", 3), ("y", 1)], "axbyc"), line_of([], ""), of_line("x=12:"), right_part("x=3,a=1:b"),
                right_part("x=03"), right_part("z=1,y=1:"), right_part(":aB")]
        self.assertEqual(told, ["x=3,y=1:axbyc", ":", ([("x", 12)], ""), "x=3,", "x=", "z=1", ":a"])
        book = SwapBook([("x", 3), ("y", 1)], "axbyc")
        book.do(("swap", 1))
        book.do(("swap", 1))
        told = [book.word(), book.spent(), book.waste(), book.cost_to("axbyc"), book.cheap_steps("axbyc"),
                is_step(book, ("swap", 0))]
        self.assertEqual(told, ["cxayb", 4, 0, 4, [("swap", 3)], False])
        book.do(("body", "x"))
        told = [book.prices(), book.cost_to("axbyc"), book.waste(), book.log()]
        self.assertEqual(told, [[("y", 1)], None, 0, [("swap", 1), ("swap", 1), ("body", "x")]])
        book.undo()
        book.undo()
        told = [book.word(), book.spent(), book.prices(), book == SwapBook([("x", 3), ("y", 1)], "bycxa")]
        self.assertEqual(told, ["bycxa", 3, [("x", 3), ("y", 1)], False])


if __name__ == "__main__":
    unittest.main()
