"""Points 9 and 10: star rings, and what one deed makes."""

import unittest

from plain import NOT_JOINTS, NOT_WORDS, check_refusals, plain_class, plain_deed, words_up_to
from sideswaps.errors import InvalidJoints, InvalidWord
from sideswaps.rings import is_alone, is_star_ring, one_deed, ring_turns, star_ring

GOOD = {"word": "axbyc", "joints": "xy"}
WRONG = {"word": (InvalidWord, NOT_WORDS), "joints": (InvalidJoints, NOT_JOINTS)}


class RingsTest(unittest.TestCase):
    def test_star_ring(self):
        self.assertEqual(star_ring("abxc", "x"), "*ab*c")
        self.assertEqual(star_ring("cxab", "x"), "*ab*c")
        self.assertEqual(star_ring("xay", "xy"), "***a")
        self.assertEqual(star_ring("", "x"), "*")
        self.assertEqual(star_ring("", ""), "*")
        self.assertEqual(star_ring("ba", ""), "*ba")
        self.assertEqual(star_ring("bxa", "x"), "*a*b")
        self.assertEqual(star_ring("x" * 300, "x"), "*" * 301)

    def test_star_ring_is_kept_by_deeds(self):
        for word in words_up_to("abxy", 4):
            for place, letter in enumerate(word):
                if letter in "xy":
                    self.assertEqual(star_ring(plain_deed(word, place), "xy"), star_ring(word, "xy"))

    def test_ring_turns(self):
        self.assertEqual(ring_turns("xay", "xy"), 1)
        self.assertEqual(ring_turns("axa", "x"), 2)
        self.assertEqual(ring_turns("xy", "xy"), 3)
        self.assertEqual(ring_turns("xy", ""), 1)
        self.assertEqual(ring_turns("", "x"), 1)
        self.assertEqual(ring_turns("x" * 299, "x"), 300)
        self.assertEqual(ring_turns("abxabxab", "x"), 3)
        self.assertEqual(ring_turns("abxxabx", "x"), 2)
        for word in words_up_to("abxy", 4):
            stars = 1 + word.count("x") + word.count("y")
            self.assertEqual(stars % ring_turns(word, "xy"), 0)

    def test_is_star_ring(self):
        rings = {star_ring(word, "x") for word in words_up_to("abx", 4)}
        for value in words_up_to("*abx", 5):
            if "x" not in value:
                self.assertIs(is_star_ring(value), value in rings, value)
        self.assertIs(is_star_ring("*abcdefghijklmnopqrstuvwxyz"), True)
        self.assertIs(is_star_ring("**abcdefghijklmnopqrstuvwxyz"), True)
        for value in [None, True, 1, "", "a", "abc", "a*", "*A", "*_", "*ab_", ["*"], ("*",), {}, "b*a*", "*+", "* "]:
            self.assertIs(is_star_ring(value), False, value)
        self.assertIs(is_star_ring(value="*a"), True)

    def test_refused(self):
        for function in (star_ring, ring_turns, one_deed, is_alone):
            check_refusals(self, function, GOOD, WRONG)


class OneDeedTest(unittest.TestCase):
    def test_one_deed(self):
        self.assertEqual(one_deed("xay", "xy"), ["ayx", "yxa"])
        self.assertEqual(one_deed("xxx", "x"), ["xxx"])
        self.assertEqual(one_deed("axa", "x"), ["axa"])
        self.assertEqual(one_deed("", "x"), [])
        self.assertEqual(one_deed("ab", "x"), [])
        for word in words_up_to("axy", 4):
            made = {plain_deed(word, place) for place, letter in enumerate(word) if letter in "xy"}
            self.assertEqual(one_deed(word, "xy"), sorted(made))

    def test_is_alone(self):
        for word, alone in [("axa", True), ("xxx", True), ("axb", False), ("", True), ("ab", True), ("x", True)]:
            self.assertIs(is_alone(word, "x"), alone, word)
        for joints in ("", "x", "xy", "axy"):
            for word in words_up_to("axy", 5):
                self.assertIs(is_alone(word, joints), len(plain_class(word, joints)) == 1, (word, joints))

    def test_is_alone_by_the_ring(self):
        for word in words_up_to("axy", 5):
            stars = 1 + word.count("x") + word.count("y")
            one_kind = "x" not in word or "y" not in word
            told = stars == 1 or one_kind and ring_turns(word, "xy") == stars
            self.assertIs(is_alone(word, "xy"), told, word)

    def test_longest_words(self):
        word = "xay" * 100
        self.assertEqual(len(one_deed(word, "xy")), 200)
        self.assertIs(is_alone(word, "xy"), False)
        self.assertIs(is_alone("x" * 300, "x"), True)


if __name__ == "__main__":
    unittest.main()
