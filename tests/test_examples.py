"""The examples that stand behind the points of the document."""

import unittest

from sideswaps.classes import bar, classes_of, comes, first_word, is_bar, last_word, leads_to, parted_by, road
from sideswaps.fewest import cheapest, fewest_deeds, lie_value, lies, lots, one_deed_less, price_line
from sideswaps.lengths import classes_by_size, first_words, how_many_classes, how_many_pairs
from sideswaps.means import how_many_with, letters_at, mean_of
from sideswaps.numbering import first_from, how_many_ahead, next_word, word_numbered
from sideswaps.rings import is_alone, is_star_ring, one_deed, ring_turns, star_ring
from sideswaps.sizes import class_size, class_words, parts_by
from sideswaps.words import back_road, done, is_ahead, is_joints, is_prices, is_road, is_word, joints_of, moved
from sideswaps.words import open_places, passed, price_of, swapped


class ExamplesTest(unittest.TestCase):
    def test_words(self):
        told = [is_word(""), is_word("aB"), is_joints("yx"), is_joints(""), is_prices([("x", 3), ("y", 1)]),
                is_prices([("x", 0)]), is_ahead("zz", "aaa")]
        self.assertEqual(told, [True, False, False, True, True, False, True])
        told = [joints_of([("x", 3), ("y", 1)]), open_places("axbyc", "xy"), swapped("axbc", "x", 1),
                is_road("axbyc", "xy", [1, 1]), is_road("axbyc", "xy", [0])]
        self.assertEqual(told, ["xy", [1, 3], "bcxa", True, False])
        told = [done("axbyc", "xy", [1, 1]), passed("axbyc", "xy", [1, 1]), back_road(5, [1, 1]),
                done("cxayb", "xy", [3, 3])]
        self.assertEqual(told, ["cxayb", ["axbyc", "bycxa", "cxayb"], [3, 3], "axbyc"])
        told = [price_of("axbyc", [("x", 3), ("y", 1)], [1, 1]), moved("axbyc", "xy", [1, 1]), moved("ab", "", [])]
        self.assertEqual(told, [4, [4, 1, 0, 3, 2], [0, 1]])

    def test_rings_and_classes(self):
        told = [star_ring("abxc", "x"), star_ring("cxab", "x"), star_ring("xay", "xy"), ring_turns("xay", "xy"),
                ring_turns("axa", "x"), ring_turns("xy", "xy"), is_star_ring("a*")]
        self.assertEqual(told, ["*ab*c", "*ab*c", "***a", 1, 2, 3, False])
        told = [one_deed("xay", "xy"), is_alone("axa", "x"), is_alone("xxx", "x"), is_alone("axb", "x"),
                is_alone("", "x")]
        self.assertEqual(told, [["ayx", "yxa"], True, True, False, True])
        told = [comes("abxc", "cxab", "x"), bar("abxc", "cxab", "x"), bar("abxc", "baxc", "x"), bar("ax", "ay", "xy"),
                is_bar("ax", "ay", "xy", ("joint", "y", 0, 1))]
        self.assertEqual(told, [True, None, ("ring", "*ab*c", "*ba*c"), ("joint", "x", 1, 0), True])
        told = [road("abxc", "cxab", "x"), leads_to("xay", "xya", "xy", [2, 0]), road("abxc", "baxc", "x"),
                first_word("yxa", "xy"), last_word("xay", "xy")]
        self.assertEqual(told, [[2], False, None, "axy", "yxa"])
        told = [classes_of(["ax", "by", "xa", "ax", "yb"], "xy"), parted_by("axy", "ayx", "xy"),
                parted_by("ax", "xa", "x"), parted_by("a", "b", "x")]
        self.assertEqual(told, [[[0, 2, 3], [1, 4]], None, ("", "a"), ("", "")])

    def test_classes_counted(self):
        told = [class_size("xay", "xy"), class_size("xax", "x"), class_size("xy", "xy"), class_size("ab", ""),
                class_words("xay", "xy"), parts_by("xay", "xy", "x"), parts_by("xy", "xy", "x"),
                parts_by("xay", "xy", "")]
        self.assertEqual(told, [6, 3, 2, 1, ["axy", "ayx", "xay", "xya", "yax", "yxa"], 3, 1, 6])
        told = [how_many_ahead("xay", "xy", "xay"), how_many_ahead("xay", "xy", "b"), how_many_ahead("xay", "xy", "zzzz"),
                word_numbered("xay", "xy", 3), next_word("xay", "xy"), next_word("yxa", "xy"),
                first_from("xay", "xy", "b")]
        self.assertEqual(told, [2, 0, 6, "xya", "xya", None, "axy"])
        told = [how_many_with("xay", "xy", 0, "a"), how_many_with("xay", "xy", 1, "y"), letters_at("xax", "x", 0),
                mean_of("xay", "xy", "xy"), mean_of("xay", "xy", "b")]
        self.assertEqual(told, [2, 2, [("a", 1), ("x", 2)], (1, 3), (0, 1)])
        told = [how_many_classes("ax", "x", 2), how_many_classes("abx", "x", 2), classes_by_size("abx", "x", 2),
                how_many_pairs("abx", "x", 2), how_many_classes("ab", "", 9)]
        self.assertEqual(told, [3, 7, [(1, 5), (2, 2)], 13, 512])
        self.assertEqual(first_words("abx", "x", 2), ["aa", "ab", "ax", "ba", "bb", "bx", "xx"])

    def test_fewest(self):
        fees = [("x", 3), ("y", 5)]
        told = [lies("axby", "byxa", "xy"), lies("axa", "axa", "x"), lies("axby", "bayx", "xy"), lies("x", "ax", "x")]
        self.assertEqual(told, [[2], [0, 2], [], []])
        told = [lots("axby", "byxa", fees, 2), lie_value("axby", "byxa", fees, 2), lots("axby", "aybx", fees, 0),
                lie_value("axby", "aybx", fees, 0)]
        self.assertEqual(told, [["_x"], 3, ["xy"], 11])
        told = [cheapest("axby", "aybx", fees), fewest_deeds("axby", "aybx", "xy"), cheapest("axby", "axby", fees),
                cheapest("ab", "ba", fees), one_deed_less("axby", "aybx", fees, 0)]
        self.assertEqual(told, [11, 3, 0, None, [1]])
        told = [price_line("axby", "aybx", fees, "x"), price_line("axby", "byxa", fees, "y")]
        self.assertEqual(told, [[(1, 7, 2), (5, 15, 1)], [(1, 3, 0)]])
        fees = [("q", 1), ("w", 5), ("x", 1), ("y", 1), ("z", 1)]
        self.assertEqual(price_line("axxzwayyq", "ayyzwaxxq", fees, "x"), [(1, 5, 2), (2, 7, 1), (3, 8, 0)])


if __name__ == "__main__":
    unittest.main()
