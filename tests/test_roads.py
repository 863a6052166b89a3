"""Points 29 and 30: roads that cost least."""

import itertools
import random
import unittest

from plain import NOT_COUNTS, NOT_LISTS, NOT_PRICES, NOT_WORDS, check_refusals, plain_cheapest_roads
from plain import plain_class, plain_deed, plain_far, words_over, words_up_to
from sideswaps.errors import InvalidNumber, InvalidPrices, InvalidWord
from sideswaps.fewest import cheapest, lie_value, lies, one_deed_less
from sideswaps.roads import cheapest_road, first_deeds, how_many_cheapest, is_cheapest_road, road_along
from sideswaps.words import done, price_of

FEES = [("x", 3), ("y", 5)]
PRICES = ([], [("x", 2)], [("x", 1), ("y", 1)], [("x", 3), ("y", 5)], [("a", 7), ("x", 1), ("y", 2)])
GREAT = 10 ** 30 - 1
ALPHABET = "abcdefghijklmnopqrstuvwxyz"
TWO = {"one": "axby", "other": "aybx", "prices": FEES}
TWO_WRONG = {"one": (InvalidWord, NOT_WORDS), "other": (InvalidWord, NOT_WORDS), "prices": (InvalidPrices, NOT_PRICES)}


def letters_of(prices):
    return "".join(letter for letter, _ in prices)


def mixed(word, seed):
    """The letters of a word in another order."""
    letters = list(word)
    random.Random(seed).shuffle(letters)
    return "".join(letters)


class RoadAlongTest(unittest.TestCase):
    def check_along(self, one, other, prices, lie):
        road = road_along(one, other, prices, lie)
        self.assertEqual(done(one, letters_of(prices), road), other)
        self.assertEqual(price_of(one, prices, road), lie_value(one, other, prices, lie))
        word, turned = one, lie
        for place in road:
            self.assertEqual(place, one_deed_less(word, other, prices, turned)[0])
            word, turned = plain_deed(word, place), (turned - place - 1) % (len(one) + 1)
        self.assertEqual([word, turned], [other, 0])

    def test_each_lie(self):
        for prices in PRICES:
            joints = letters_of(prices)
            for one in words_up_to("axy", 4):
                for other in plain_class(one, joints):
                    for lie in lies(one, other, joints):
                        self.check_along(one, other, prices, lie)

    def test_ordinary(self):
        self.assertEqual(road_along("axby", "aybx", FEES, 0), [1, 1, 0])
        self.assertEqual([road_along("axa", "axa", FEES, 0), road_along("", "", [], 0)], [[], []])
        # The words are equal, but not along this lie.
        self.assertEqual(road_along("axa", "axa", FEES, 2), [1])
        self.check_along("axby", "aybx", [("x", GREAT), ("y", GREAT)], 0)

    def test_60_letters(self):
        for word in (("xy" * 30), ("xayxbz" * 10), (ALPHABET * 3)[:60]):
            prices = [(letter, 1 + k * k % 5) for k, letter in enumerate("abcxyz")]
            other = mixed(word, 5)
            for lie in lies(word, other, "abcxyz")[::9]:
                self.check_along(word, other, prices, lie)

    def test_refused(self):
        wrong = {**TWO_WRONG, "lie": (InvalidNumber, NOT_COUNTS + [1, 2, 3, 4, 5, GREAT])}
        check_refusals(self, road_along, {**TWO, "lie": 0}, wrong)
        for one, other, lie in [("ax", "ay", 0), ("xx", "xy", 1), ("ab", "abc", 0), ("ab", "ba", 0)]:
            check_refusals(self, road_along, {"one": one, "other": other, "prices": FEES, "lie": lie},
                           {"lie": (InvalidNumber, [lie])})


class CheapestRoadTest(unittest.TestCase):
    def test_against_all_roads(self):
        for prices in PRICES:
            joints = letters_of(prices)
            for one in words_up_to("axy", 4):
                for other in plain_class(one, joints):
                    roads = plain_cheapest_roads(one, other, prices)
                    self.assertEqual(cheapest_road(one, other, prices), roads[0], (one, other, prices))
                    self.assertEqual(first_deeds(one, other, prices), sorted({road[0] for road in roads if road}))

    def test_more_letters(self):
        prices = [("u", 9), ("v", 2), ("w", 2), ("x", 3), ("y", 1)]
        for word in ["uvwxy", "xxyyxy", "uaxvbyx", "xyaxya", "xyxyaxyx", "xxxaxxya"]:
            for other in plain_class(word, "uvwxy")[::11]:
                roads = plain_cheapest_roads(word, other, prices)
                self.assertEqual(cheapest_road(word, other, prices), roads[0])
                self.assertEqual(first_deeds(word, other, prices), sorted({road[0] for road in roads if road}))
                for first, second in itertools.permutations(roads[:20], 2):
                    self.assertNotEqual(first, second[:len(first)])

    def test_ordinary(self):
        self.assertEqual([cheapest_road("axby", "aybx", FEES), first_deeds("axby", "aybx", FEES)], [[1, 1, 0], [1]])
        self.assertEqual(first_deeds("axby", "aybx", [("x", 1), ("y", 1)]), [1, 3])
        for one, other, prices in [("ab", "ba", FEES), ("ax", "ay", FEES), ("a", "", []), ("axby", "ybxa", [("x", 1)])]:
            self.assertIsNone(cheapest_road(one, other, prices))
            self.assertIsNone(first_deeds(one, other, prices))
        for word in ("", "ab", "axby", "axa", "xxx"):
            self.assertEqual([cheapest_road(word, word, FEES), first_deeds(word, word, FEES)], [[], []])

    def test_up_to_the_limits(self):
        for word in (ALPHABET[:24], "xy" * 12, "xyzw" * 6, "xaybzc" * 4):
            prices = [(letter, 1 + k % 3) for k, letter in enumerate(ALPHABET)]
            other = mixed(word, 3)
            road = cheapest_road(word, other, prices)
            self.assertTrue(is_cheapest_road(word, other, prices, road))
            self.assertEqual(price_of(word, prices, road), cheapest(word, other, prices))
            self.assertEqual(road[0], first_deeds(word, other, prices)[0])
        for word in ("xy" * 20, "xaybzcw" * 5, (ALPHABET * 2)[:40]):
            prices = [("w", 2), ("x", 1), ("y", 2), ("z", GREAT)]
            other = road_end(word, "wxyz")
            least = cheapest(word, other, prices)
            costs = dict(prices)
            begun = [place for place, letter in enumerate(word) if letter in costs
                     and cheapest(plain_deed(word, place), other, prices) == least - costs[letter]]
            self.assertEqual(first_deeds(word, other, prices), begun)

    def test_is_cheapest(self):
        for prices in PRICES[1:]:
            for one in words_over("axy", 3):
                for other in words_over("axy", 3)[::2]:
                    roads = plain_cheapest_roads(one, other, prices)
                    for many in range(5):
                        for road in itertools.product(range(3), repeat=many):
                            told = is_cheapest_road(one, other, prices, list(road))
                            self.assertIs(told, list(road) in roads, (one, other, prices, road))

    def test_is_cheapest_of_any_value(self):
        for value in NOT_LISTS + [[True], ["1"], [-1], [4], [0], [1, 1], [1.5], [[1]], [1, 1, None]]:
            self.assertIs(is_cheapest_road("axby", "aybx", FEES, value), False)
        self.assertIs(is_cheapest_road("axby", "byxa", FEES, [1]), True)
        self.assertIs(is_cheapest_road("axby", "axby", FEES, [1, 2]), False)
        self.assertIs(is_cheapest_road("axby", "axby", FEES, []), True)
        self.assertIs(is_cheapest_road("ab", "ba", FEES, []), False)
        self.assertIs(is_cheapest_road("xy" * 150, "yx" * 150, FEES, [0]), True)

    def test_refused(self):
        for function in (cheapest_road, first_deeds):
            check_refusals(self, function, TWO, TWO_WRONG)
        check_refusals(self, is_cheapest_road, {**TWO, "value": []}, TWO_WRONG)


def road_end(word, joints):
    """A word that comes of a word, by deeds here and there."""
    for number in range(40):
        places = [place for place, letter in enumerate(word) if letter in joints]
        word = plain_deed(word, places[number * 7 % len(places)])
    return word


class HowManyTest(unittest.TestCase):
    def test_against_all_roads(self):
        lists = ([], [("x", 1)], [("x", 1), ("y", 1)], [("x", 2), ("y", 3)], [("w", 1), ("x", 1), ("y", 1), ("z", 1)],
                 [("w", 2), ("x", 1), ("y", 1), ("z", 3)])
        for prices in lists:
            joints = letters_of(prices)
            for word in ("", "a", "axb", "wxyz", "axyaz", "xaya", "xyz", "awaxa", "wxay", "xawaya", "abab", "zyxwa"):
                for other in sorted(plain_far(word, prices)):
                    roads = plain_cheapest_roads(word, other, prices)
                    self.assertEqual(how_many_cheapest(word, other, prices), len(roads), (word, other, joints))

    def test_ordinary(self):
        ones = [("x", 1), ("y", 1), ("z", 1)]
        self.assertEqual([how_many_cheapest("axby", "aybx", FEES), how_many_cheapest("axby", "aybx", ones)], [1, 2])
        self.assertEqual([how_many_cheapest("xyz", "yxz", ones), how_many_cheapest("xyz", "xyz", ones)], [2, 1])
        self.assertEqual([how_many_cheapest("ab", "ba", FEES), how_many_cheapest("ax", "ay", FEES)], [0, 0])
        # Bodies may stand there as often as they like, and the other word may have a joint twice.
        self.assertEqual([how_many_cheapest("aaxaa", "aaxaa", FEES), how_many_cheapest("xy", "xx", FEES)], [1, 0])

    def test_all_26_letters(self):
        prices = [(letter, GREAT) for letter in ALPHABET]
        told = how_many_cheapest(ALPHABET, ALPHABET[::-1], prices)
        least = cheapest(ALPHABET, ALPHABET[::-1], prices)
        begun = first_deeds(ALPHABET, ALPHABET[::-1], prices)
        behind = [how_many_cheapest(plain_deed(ALPHABET, place), ALPHABET[::-1], prices) for place in begun]
        self.assertEqual(told, sum(behind))
        self.assertTrue(all(cheapest(plain_deed(ALPHABET, place), ALPHABET[::-1], prices) == least - GREAT
                            for place in begun))

    def test_refused(self):
        check_refusals(self, how_many_cheapest, TWO, TWO_WRONG)
        # A joint that stands there twice is refused last, but ahead of every result.
        for one, other in [("xx", "xx"), ("axax", "xaxa"), ("xyx", "ab"), ("ayyb", "")]:
            wrong = {"one": (InvalidWord, [one])}
            check_refusals(self, how_many_cheapest, {"one": one, "other": other, "prices": FEES}, wrong)
            with self.assertRaises(InvalidPrices):
                how_many_cheapest(one, other, NOT_PRICES[0])
            with self.assertRaises(InvalidWord) as caught:
                how_many_cheapest(one, NOT_WORDS[0], FEES)
            self.assertIs(caught.exception.value, NOT_WORDS[0])


if __name__ == "__main__":
    unittest.main()
