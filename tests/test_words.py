"""Points 6 to 8: words, joints, prices and roads."""

import unittest

from plain import NOT_COUNTS, NOT_JOINTS, NOT_PRICES, NOT_WORDS, check_refusals, plain_deed, words_over, words_up_to
from sideswaps.errors import InvalidJoints, InvalidNumber, InvalidPrices, InvalidRoad, InvalidWord
from sideswaps.words import back_road, done, is_ahead, is_joints, is_prices, is_road, is_word, joints_of, moved
from sideswaps.words import open_places, passed, price_of, swapped

LETTERS = "abcdefghijklmnopqrstuvwxyz"
NOT_ROADS = [None, True, 1, "11", (1,), {}, [0], [5], [-1], [True], ["1"], [None], [1, 0], [1, 1, 1, 2], [[1]], [-4]]


class KindsTest(unittest.TestCase):
    def test_words(self):
        for value in ["", "a", "z", "axbyc", LETTERS, "a" * 300, "a" * 301]:
            self.assertIs(is_word(value), True, value)
        for value in NOT_WORDS + ["A", "a-", "_", "a\n", " ", "\x7f", [], 0]:
            self.assertIs(is_word(value), False, value)

    def test_joints(self):
        for value in ["", "a", "xy", "az", LETTERS]:
            self.assertIs(is_joints(value), True, value)
        for value in NOT_JOINTS + ["aa", "abb", "ba", "acb", LETTERS[::-1], [], ("x", "y"), ["x", "y"]]:
            self.assertIs(is_joints(value), False, value)

    def test_prices(self):
        for value in [[], [("x", 1)], [("x", 3), ("y", 1)], [("a", 10 ** 30 - 1)], [(letter, 1) for letter in LETTERS]]:
            self.assertIs(is_prices(value), True, value)
        for value in NOT_PRICES + ["", (), {}, [()], [("x", None)], [("x", [1])], [("x", 1), ("a", 1)]]:
            self.assertIs(is_prices(value), False, value)

    def test_order_of_words(self):
        ordered = words_up_to("abz", 3)
        for i, one in enumerate(ordered):
            for j, other in enumerate(ordered):
                self.assertIs(is_ahead(one, other), i < j)
        self.assertIs(is_ahead("zz", "aaa"), True)
        self.assertIs(is_ahead("a" * 300, "a" * 299 + "b"), True)

    def test_order_refuses(self):
        check_refusals(self, is_ahead, {"one": "a", "other": "b"},
                       {"one": (InvalidWord, NOT_WORDS), "other": (InvalidWord, NOT_WORDS)})

    def test_joints_of(self):
        self.assertEqual(joints_of([]), "")
        self.assertEqual(joints_of([("x", 3), ("y", 1)]), "xy")
        self.assertEqual(joints_of([(letter, 7) for letter in LETTERS]), LETTERS)
        check_refusals(self, joints_of, {"prices": []}, {"prices": (InvalidPrices, NOT_PRICES)})


class DeedsTest(unittest.TestCase):
    def test_open_places(self):
        self.assertEqual(open_places("axbyc", "xy"), [1, 3])
        self.assertEqual(open_places("axbyc", "y"), [3])
        self.assertEqual(open_places("axbyc", ""), [])
        self.assertEqual(open_places("", "xy"), [])
        self.assertEqual(open_places("x" * 300, "x"), list(range(300)))
        check_refusals(self, open_places, {"word": "axbyc", "joints": "xy"},
                       {"word": (InvalidWord, NOT_WORDS), "joints": (InvalidJoints, NOT_JOINTS)})

    def test_swapped(self):
        self.assertEqual(swapped("axbc", "x", 1), "bcxa")
        self.assertEqual(swapped("xab", "x", 0), "abx")
        self.assertEqual(swapped("abx", "x", 2), "xab")
        self.assertEqual(swapped("x", "x", 0), "x")
        for word in words_over("axy", 4):
            for place in range(4):
                if word[place] != "a":
                    self.assertEqual(swapped(word, "xy", place), plain_deed(word, place))

    def test_swapped_refuses(self):
        check_refusals(self, swapped, {"word": "axbc", "joints": "x", "place": 1}, {
            "word": (InvalidWord, NOT_WORDS), "joints": (InvalidJoints, NOT_JOINTS),
            "place": (InvalidNumber, NOT_COUNTS + [0, 2, 3, 4, 10 ** 29, -3]),
        })
        check_refusals(self, swapped, {"word": "", "joints": "x", "place": 0}, {"place": (InvalidNumber, [0])})

    def test_is_road(self):
        for value in [[], [1], [3], [1, 1], [1, 3], [3, 3], [1, 1, 1, 1]]:
            self.assertIs(is_road("axbyc", "xy", value), True, value)
        for value in NOT_ROADS:
            self.assertIs(is_road("axbyc", "xy", value), False, value)
        self.assertIs(is_road("", "", []), True)
        self.assertIs(is_road("", "x", [0]), False)
        self.assertIs(is_road("axb", "", [1]), False)
        check_refusals(self, is_road, {"word": "axbyc", "joints": "xy", "value": None},
                       {"word": (InvalidWord, NOT_WORDS), "joints": (InvalidJoints, NOT_JOINTS)})

    def test_long_roads(self):
        word = "x" * 299 + "y"
        self.assertIs(is_road(word, "xy", [7] * 1000), True)
        self.assertIs(is_road(word, "y", [299] * 1000), False)
        self.assertEqual(done("xa" * 150, "x", [0, 299] * 500), "xa" * 150)
        self.assertEqual(len(passed(word, "xy", [150] * 100)), 101)

    def test_done_and_passed(self):
        self.assertEqual(passed("axbyc", "xy", [1, 1]), ["axbyc", "bycxa", "cxayb"])
        self.assertEqual(passed("", "", []), [""])
        for word in words_over("axy", 3):
            for first in open_places(word, "xy"):
                middle = plain_deed(word, first)
                self.assertEqual(done(word, "xy", []), word)
                self.assertEqual(done(word, "xy", [first]), middle)
                for second in open_places(middle, "xy"):
                    last = plain_deed(middle, second)
                    self.assertEqual(done(word, "xy", [first, second]), last)
                    self.assertEqual(passed(word, "xy", [first, second]), [word, middle, last])

    def test_roads_refused(self):
        for function in (done, passed, moved):
            check_refusals(self, function, {"word": "axbyc", "joints": "xy", "road": [1]}, {
                "word": (InvalidWord, NOT_WORDS), "joints": (InvalidJoints, NOT_JOINTS),
                "road": (InvalidRoad, NOT_ROADS),
            })
        check_refusals(self, price_of, {"word": "axbyc", "prices": [("x", 3), ("y", 1)], "road": [1]}, {
            "word": (InvalidWord, NOT_WORDS), "prices": (InvalidPrices, NOT_PRICES),
            "road": (InvalidRoad, NOT_ROADS),
        })

    def test_back_road(self):
        self.assertEqual(back_road(5, [1, 1]), [3, 3])
        self.assertEqual(back_road(5, [0, 1, 4]), [0, 3, 4])
        self.assertEqual(back_road(0, []), [])
        self.assertEqual(back_road(300, [299, 0, 3]), [296, 299, 0])
        word = "axbyxxay"
        places = [1, 5, 4, 0, 7]
        road = []
        here = word
        for step in range(30):
            open_now = open_places(here, "xy")
            road.append(open_now[places[step % 5] % len(open_now)])
            here = plain_deed(here, road[-1])
            self.assertEqual(done(here, "xy", back_road(8, road)), word)

    def test_back_road_refuses(self):
        roads = [None, True, "1", (1,), [5], [-1], [True], [1, 5], ["1"], [[1]], {}]
        check_refusals(self, back_road, {"size": 5, "road": [1]}, {
            "size": (InvalidNumber, NOT_COUNTS + [301, 10 ** 29]), "road": (InvalidRoad, roads),
        })
        check_refusals(self, back_road, {"size": 0, "road": []}, {"road": (InvalidRoad, [[0]])})

    def test_price_of(self):
        self.assertEqual(price_of("axbyc", [("x", 3), ("y", 1)], [1, 1]), 4)
        self.assertEqual(price_of("axbyc", [("x", 3), ("y", 1)], [1, 1, 1]), 7)
        self.assertEqual(price_of("axbyc", [("x", 3), ("y", 1)], []), 0)
        self.assertEqual(price_of("x" * 300, [("x", 10 ** 30 - 1)], [5] * 1000), 1000 * (10 ** 30 - 1))
        self.assertEqual(price_of("xyz", [("x", 1), ("y", 10), ("z", 100)], [0, 0, 0]), 111)

    def test_moved(self):
        self.assertEqual(moved("axbyc", "xy", [1, 1]), [4, 1, 0, 3, 2])
        self.assertEqual(moved("ab", "", []), [0, 1])
        self.assertEqual(moved("", "", []), [])
        word = "xxayx"
        road = [0, 2, 0]
        spots = moved(word, "xy", road)
        self.assertEqual(sorted(spots), [0, 1, 2, 3, 4])
        self.assertEqual("".join([word[spot] for spot in spots]), done(word, "xy", road))
        # Unlike letters show just where each one went.
        self.assertEqual(moved("xxx", "x", [0, 0]), ["xyz".index(letter) for letter in done("xyz", "xyz", [0, 0])])
        self.assertEqual(len(moved("x" * 300, "x", [150] * 1000)), 300)


if __name__ == "__main__":
    unittest.main()
