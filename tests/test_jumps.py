"""Points 62 and 63: which jumps are let, and how many words come of words of unlike joints."""

import itertools
import math
import unittest

from plain import NOT_COUNTS, NOT_JOINTS, NOT_LISTS, NOT_WORDS, check_refusals, plain_let_class, words_up_to
from sideswaps.errors import InvalidJoints, InvalidList, InvalidNumber, InvalidWord
from sideswaps.jumps import is_let_road, let_places, shuffle
from sideswaps.words import back_road, done, is_road

NOT_WIDTHS = NOT_LISTS + [[0], [-1], [True], ["1"], [None], [1, 1], [2, 1], [1, 3, 2], [[1]], (1, 2), [1, True], [0, 1]]
WRONG = {"word": (InvalidWord, NOT_WORDS), "joints": (InvalidJoints, NOT_JOINTS), "widths": (InvalidList, NOT_WIDTHS)}
WIDTHS = [[], [1], [2], [3], [1, 2], [2, 4], [5], [1, 7], [10 ** 29]]


def all_widths(most):
    """All lists of widths of at most so much."""
    return [list(each) for many in range(most + 1) for each in itertools.combinations(range(1, most + 1), many)]


class JumpsTest(unittest.TestCase):
    def test_let_places(self):
        for word in words_up_to("axy", 4):
            for joints in ("", "x", "xy"):
                for widths in WIDTHS:
                    told = let_places(word, joints, widths)
                    plain = [place for place, letter in enumerate(word) if letter in joints
                             and (place + 1 in widths or len(word) - place in widths)]
                    self.assertEqual(told, plain, (word, joints, widths))

    def test_is_let_road(self):
        for word in words_up_to("axy", 3):
            for widths in WIDTHS:
                for road in ([], [0], [1], [2], [0, 1], [1, 1], [2, 0], [0, 0, 0]):
                    can = is_road(word, "xy", road) and all(
                        place + 1 in widths or len(word) - place in widths for place in road)
                    self.assertIs(is_let_road(word, "xy", widths, road), can)
                    if can:
                        made = done(word, "xy", road)
                        self.assertIs(is_let_road(made, "xy", widths, back_road(len(word), road)), True)
        for value in NOT_LISTS + [[-1], [True], ["0"], [None], [(0,)], [9], [0, 7]]:
            self.assertIs(is_let_road("xyz", "xyz", [1, 2, 3], value), False)

    def test_ordinary(self):
        told = [let_places("xyz", "xyz", [1]), let_places("axby", "xy", [2]), is_let_road("xyz", "xyz", [1], [0, 0]),
                is_let_road("xyz", "xyz", [1], [1]), let_places("", "x", [1]), is_let_road("", "", [], [])]
        self.assertEqual(told, [[0, 2], [1], True, False, [], True])
        # One of the two widths of a deed is enough, also the one above half the ring.
        self.assertEqual([let_places("xyz", "xyz", [3]), let_places("x" * 60, "x", [60]), let_places("xx", "x", [3])],
                         [[0, 2], [0, 59], []])

    def test_refused(self):
        check_refusals(self, let_places, {"word": "axby", "joints": "xy", "widths": [2]}, WRONG)
        check_refusals(self, is_let_road, {"word": "axby", "joints": "xy", "widths": [2], "value": [1]}, WRONG)
        check_refusals(self, is_let_road, {"word": "axby", "joints": "xy", "widths": [2], "value": None}, WRONG)


class ShuffleTest(unittest.TestCase):
    def test_against_deeds(self):
        for length in range(7):
            word = "tuvwxyz"[:length]
            for widths in all_widths(length + 1):
                kind, words = shuffle(length, widths)
                self.assertEqual(words, len(plain_let_class(word, word, widths)), (length, widths))
                near = [width for width in widths if width <= length]
                self.assertIs(kind == "none", near == [])
                shared = math.gcd(length + 1, *near)
                alone = len({min(width, length + 1 - width) for width in near}) == 1
                self.assertIs(kind == "round", alone)
                if kind in ("even", "all"):
                    stars = (length + 1) // shared
                    orders = math.factorial(stars - 1) * (stars if shared > 1 else 1)
                    self.assertEqual(words, orders // 2 if kind == "even" else orders)

    def test_ordinary(self):
        told = [shuffle(4, [1]), shuffle(5, [2]), shuffle(5, [1, 3]), shuffle(5, [1, 2]), shuffle(7, [2, 4]), shuffle(3, [7])]
        self.assertEqual(told, [("round", 4), ("round", 6), ("even", 60), ("all", 120), ("all", 24), ("none", 1)])
        self.assertEqual([shuffle(7, [1, 3]), shuffle(8, [1, 3]), shuffle(7, [1, 2]), shuffle(3, [1, 2]), shuffle(9, [2, 6])],
                         [("even", 2520), ("all", 40320), ("all", 5040), ("all", 6), ("all", 120)])
        self.assertEqual([shuffle(5, [1, 5]), shuffle(5, [5]), shuffle(5, [3]), shuffle(5, [1, 5, 9])],
                         [("round", 5), ("round", 5), ("round", 2), ("round", 5)])

    def test_0_and_300(self):
        self.assertEqual([shuffle(0, []), shuffle(0, [1]), shuffle(0, [1, 2, 3])], [("none", 1)] * 3)
        self.assertEqual([shuffle(300, []), shuffle(300, [301]), shuffle(300, [7]), shuffle(300, [1, 300])],
                         [("none", 1), ("none", 1), ("round", 43 * 42), ("round", 300)])
        # 301 is 7 times 43.
        self.assertEqual([shuffle(300, [7, 14]), shuffle(300, [1, 3]), shuffle(299, [1, 3]), shuffle(299, [2, 6])], [
            ("all", math.factorial(42) * 43), ("all", math.factorial(300)), ("even", math.factorial(299) // 2),
            ("even", math.factorial(149) * 150 // 2),
        ])
        self.assertEqual(shuffle(300, list(range(1, 400))), ("all", math.factorial(300)))

    def test_refused(self):
        check_refusals(self, shuffle, {"length": 5, "widths": [1]}, {
            "length": (InvalidNumber, NOT_COUNTS + [301, 10 ** 30]), "widths": (InvalidList, NOT_WIDTHS),
        })


if __name__ == "__main__":
    unittest.main()
