"""Points 46 and 47: mirrors."""

import heapq
import unittest

from plain import NOT_JOINTS, NOT_PRICES, NOT_WORDS, check_refusals, plain_deed, words_over, words_up_to
from sideswaps.errors import InvalidJoints, InvalidPrices, InvalidWord
from sideswaps.fewest import cheapest
from sideswaps.mirrors import cheapest_mirrored, comes_mirrored, mirrored_size
from sideswaps.sizes import class_size

GREAT = 10 ** 30 - 1
WORDS_WRONG = {"word": (InvalidWord, NOT_WORDS), "other": (InvalidWord, NOT_WORDS)}
JOINTS_WRONG = {"joints": (InvalidJoints, NOT_JOINTS), "mirrors": (InvalidJoints, NOT_JOINTS + ["x", "axy", "xz"])}


def plain_mirrored(word, prices, mirrors):
    """The tuple of the least price and the fewest deeds at mirrors to each word, deed after deed tried."""
    costs, backwards = dict(prices), dict(mirrors)
    least = {}
    queue = [(0, 0, word)]
    while queue:
        price, many, here = heapq.heappop(queue)
        if here in least:
            continue
        least[here] = (price, many)
        for place, letter in enumerate(here):
            if letter in costs:
                heapq.heappush(queue, (price + costs[letter], many, plain_deed(here, place)))
            if letter in backwards:
                heapq.heappush(queue, (price + backwards[letter], many + 1, here[::-1]))
    return least


def ones(letters):
    return [(letter, 1) for letter in letters]


class MirrorsTest(unittest.TestCase):
    def test_against_deeds(self):
        for joints, mirrors in [("", ""), ("", "a"), ("x", ""), ("x", "a"), ("x", "ay"), ("xy", "a"), ("x", "y"), ("a", "z"), ("", "xy")]:
            for size in range(5):
                words = words_over("axy", size)
                for word in words[::3]:
                    led = plain_mirrored(word, ones(joints), ones(mirrors))
                    self.assertEqual(mirrored_size(word, joints, mirrors), len(led), (word, joints, mirrors))
                    for other in words[::2]:
                        self.assertIs(comes_mirrored(word, other, joints, mirrors), other in led)

    def test_prices_against_deeds(self):
        lists = [([], [("a", 3)]), ([("x", 2)], [("a", 3)]), ([("x", 3), ("y", 1)], [("a", 1)]), ([("x", 1)], [("a", 5), ("y", 2)]),
                 ([("y", 4)], [("a", 4)]), ([("x", 2)], [("a", 2)]), ([("x", 1), ("y", 1)], [("a", 1), ("b", 1)])]
        for prices, mirrors in lists:
            for word in words_up_to("axy", 4)[::2] + ["axbyx", "xxayxb", "abxyx"]:
                led = plain_mirrored(word, prices, mirrors)
                for other in led:
                    self.assertEqual(cheapest_mirrored(word, other, prices, mirrors), led[other], (word, other, prices, mirrors))
                for other in words_over("axy", len(word) if len(word) < 5 else 0)[::5]:
                    self.assertEqual(cheapest_mirrored(word, other, prices, mirrors), led.get(other))

    def test_ordinary(self):
        self.assertEqual([comes_mirrored("abcd", "dcba", "", "a"), mirrored_size("abcd", "", "a"), mirrored_size("abcd", "", "x")],
                         [True, 2, 1])
        self.assertEqual([cheapest_mirrored("abc", "cba", [("b", 4)], [("a", 3)]),
                          cheapest_mirrored("abc", "cba", [("b", 3)], [("a", 3)]), cheapest_mirrored("ab", "ba", [], [])],
                         [(3, 1), (3, 0), None])
        # Without a mirror in the word it is as without mirrors.
        self.assertEqual([comes_mirrored("abcd", "dcba", "", "x"), comes_mirrored("bxcx", "xcbx", "x", "ay")], [False, False])
        self.assertEqual(cheapest_mirrored("abcd", "dcba", [], [("x", 1)]), None)
        self.assertEqual(cheapest_mirrored("abc", "cba", [("b", GREAT)], [("a", GREAT), ("c", GREAT - 1)]), (GREAT - 1, 1))

    def test_words_that_are_their_own_backwards(self):
        for word in ("abcba", "aa", "a", "axxa", "xaaaax"):
            self.assertEqual(mirrored_size(word, "x", "a"), class_size(word, "x"))
            self.assertEqual(cheapest_mirrored(word, word[::-1], [("x", 2)], [("a", 3)]), (0, 0))
        # It comes to itself backwards by its joints.
        self.assertEqual(mirrored_size("axb", "x", "a"), class_size("axb", "x"))
        self.assertEqual(mirrored_size("", "x", "a"), 1)
        self.assertIs(comes_mirrored("", "", "x", "a"), True)

    def test_60_letters(self):
        word = ("abxcy" * 12)
        self.assertIs(comes_mirrored(word, word[::-1], "xy", "a"), True)
        self.assertIs(comes_mirrored(word, word[::-1], "xy", ""), False)
        self.assertEqual(mirrored_size(word, "xy", "a"), 2 * class_size(word, "xy"))
        self.assertEqual(cheapest_mirrored(word, word[::-1], [("x", 1), ("y", 2)], [("a", GREAT)]), (GREAT, 1))
        straight = cheapest(word, word[::-1], ones("bcxy"))
        self.assertEqual(cheapest_mirrored(word, word[::-1], ones("bcxy"), [("a", straight)]), (straight, 0))
        self.assertEqual(cheapest_mirrored(word, word[::-1], ones("bcxy"), [("a", straight - 1)]), (straight - 1, 1))

    def test_refused(self):
        good = {"word": "abc", "other": "cba", "joints": "x", "mirrors": "a"}
        check_refusals(self, comes_mirrored, good, {**WORDS_WRONG, **JOINTS_WRONG})
        check_refusals(self, mirrored_size, {"word": "abc", "joints": "x", "mirrors": "a"},
                       {"word": (InvalidWord, NOT_WORDS), **JOINTS_WRONG})
        mirrors = NOT_PRICES + [[("x", 1)], [("a", 1), ("x", 1)], "a"]
        wrong = {**WORDS_WRONG, "prices": (InvalidPrices, NOT_PRICES), "mirrors": (InvalidPrices, mirrors)}
        good = {"word": "abc", "other": "cba", "prices": [("x", 1)], "mirrors": [("a", 1)]}
        check_refusals(self, cheapest_mirrored, good, wrong)
        check_refusals(self, cheapest_mirrored, {**good, "other": "b"}, wrong)


if __name__ == "__main__":
    unittest.main()
