"""The examples that stand behind the points of the document."""

import unittest

from sideswaps.classes import bar, classes_of, comes, first_word, is_bar, last_word, leads_to, parted_by, road
from sideswaps.rings import is_alone, is_star_ring, one_deed, ring_turns, star_ring
from sideswaps.words import back_road, done, is_ahead, is_joints, is_prices, is_road, is_word, joints_of, moved
from sideswaps.words import open_places, passed, price_of, swapped


class ExamplesTest(unittest.TestCase):
    def test_words(self):
        told = [is_word(""), is_word("aB"), is_joints("yx"), is_joints(""), is_prices([("x", 3), ("y", 1)]),
                is_prices([("x", 0)]), is_ahead("zz", "aaa")]
        self.assertEqual(told, [True, False, False, True, True, False, True])
        told = [joints_of([("x", 3), ("y", 1)]), open_places("axbyc", "xy"), swapped("axbc", "x", 1),
                is_road("axbyc", "xy", [1, 1]), is_road("axbyc", "xy", [0])]
        self.assertEqual(told, ["xy", [1, 3], "bcxa", True, False])
        told = [done("axbyc", "xy", [1, 1]), passed("axbyc", "xy", [1, 1]), back_road(5, [1, 1]),
                done("cxayb", "xy", [3, 3])]
        self.assertEqual(told, ["cxayb", ["axbyc", "bycxa", "cxayb"], [3, 3], "axbyc"])
        told = [price_of("axbyc", [("x", 3), ("y", 1)], [1, 1]), moved("axbyc", "xy", [1, 1]), moved("ab", "", [])]
        self.assertEqual(told, [4, [4, 1, 0, 3, 2], [0, 1]])

    def test_rings_and_classes(self):
        told = [star_ring("abxc", "x"), star_ring("cxab", "x"), star_ring("xay", "xy"), ring_turns("xay", "xy"),
                ring_turns("axa", "x"), ring_turns("xy", "xy"), is_star_ring("a*")]
        self.assertEqual(told, ["*ab*c", "*ab*c", "***a", 1, 2, 3, False])
        told = [one_deed("xay", "xy"), is_alone("axa", "x"), is_alone("xxx", "x"), is_alone("axb", "x"),
                is_alone("", "x")]
        self.assertEqual(told, [["ayx", "yxa"], True, True, False, True])
        told = [comes("abxc", "cxab", "x"), bar("abxc", "cxab", "x"), bar("abxc", "baxc", "x"), bar("ax", "ay", "xy"),
                is_bar("ax", "ay", "xy", ("joint", "y", 0, 1))]
        self.assertEqual(told, [True, None, ("ring", "*ab*c", "*ba*c"), ("joint", "x", 1, 0), True])
        told = [road("abxc", "cxab", "x"), leads_to("xay", "xya", "xy", [2, 0]), road("abxc", "baxc", "x"),
                first_word("yxa", "xy"), last_word("xay", "xy")]
        self.assertEqual(told, [[2], False, None, "axy", "yxa"])
        told = [classes_of(["ax", "by", "xa", "ax", "yb"], "xy"), parted_by("axy", "ayx", "xy"),
                parted_by("ax", "xa", "x"), parted_by("a", "b", "x")]
        self.assertEqual(told, [[[0, 2, 3], [1, 4]], None, ("", "a"), ("", "")])


if __name__ == "__main__":
    unittest.main()
