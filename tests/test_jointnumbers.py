"""Points 60 and 61: number lists."""

import itertools
import math
import random
import unittest

from plain import NOT_COUNTS, NOT_JOINTS, NOT_LISTS, NOT_WORDS, check_refusals, plain_deed, words_over, words_up_to
from sideswaps.errors import InvalidJoints, InvalidNumber, InvalidRoad, InvalidWord
from sideswaps.jointnumbers import done_by_numbers, done_by_numbers_often, numbers_of, numbers_order, numbers_parting
from sideswaps.jointnumbers import road_of
from sideswaps.words import done, open_places
from test_programs import ALPHABET, NOT_PROGRAMS, SIZES, programs_up_to

GREAT = 10 ** 30 - 1
WRONG = {"word": (InvalidWord, NOT_WORDS), "joints": (InvalidJoints, NOT_JOINTS)}
# What is no number list for two joints.
NOT_NUMBERS = NOT_PROGRAMS + [[2], [0, 3]]


def plain_numbers(word, joints, numbers):
    """The word that a number list makes, and the places of its deeds, deed by deed."""
    road = []
    for number in numbers:
        road.append([place for place, letter in enumerate(word) if letter in joints][number])
        word = plain_deed(word, road[-1])
    return word, road


class NumbersTest(unittest.TestCase):
    def test_against_deeds(self):
        for word in words_up_to("axy", 5)[::2]:
            for joints in ("", "x", "xy", "axy"):
                count = len(open_places(word, joints))
                for numbers in programs_up_to(count, 3)[::1 + count]:
                    made, road = plain_numbers(word, joints, numbers)
                    self.assertEqual(done_by_numbers(word, joints, numbers), made, (word, joints, numbers))
                    self.assertEqual(road_of(word, joints, numbers), road)
                    self.assertEqual(numbers_of(word, joints, road), numbers)

    def test_done_often(self):
        for word in ("axbyc", "aaxbbxcc", "xyx", "abc", "", "xaayzb"):
            for joints in ("x", "xyz", ""):
                count = len(open_places(word, joints))
                for numbers in programs_up_to(count, 2):
                    for times in range(7):
                        made = plain_numbers(word, joints, numbers * times)[0]
                        self.assertEqual(done_by_numbers_often(word, joints, numbers, times), made)
                    order = numbers_order(count, numbers)
                    made = plain_numbers(word, joints, numbers * (GREAT % order))[0]
                    self.assertEqual(done_by_numbers_often(word, joints, numbers, GREAT), made)

    def test_numbers_order(self):
        # Words with unlike joints and unlike pieces are moved by all that moves any word.
        for count, word in enumerate(["a", "axb", "axbyc", "axbyczd", "axbyczdwe"]):
            for numbers in programs_up_to(count, 3):
                order, made = 1, plain_numbers(word, "wxyz", numbers)[0]
                while made != word:
                    order, made = order + 1, plain_numbers(made, "wxyz", numbers)[0]
                self.assertEqual(numbers_order(count, numbers), order, numbers)
        for count in range(1, 61):
            for number in range(count):
                length = (count + 1) // math.gcd(count + 1, number + 1)
                self.assertEqual(numbers_order(count, [number]), length * (length - 1))
        self.assertEqual([numbers_order(0, []), numbers_order(60, [])], [1, 1])
        self.assertEqual([numbers_order(2, [0]), numbers_order(3, [1]), numbers_order(4, [1, 0])], [6, 2, 15])

    def test_ordinary(self):
        told = [done_by_numbers("axbyc", "xy", [0]), done_by_numbers("axbyc", "xy", [1, 1]),
                road_of("axbyc", "xy", [0, 1]), numbers_of("axbyc", "xy", [1, 1])]
        self.assertEqual(told, ["bycxa", "bxcya", [1, 3], [0, 0]])
        self.assertEqual(done_by_numbers_often("aaxbbxcc", "x", [0], 10 ** 20 + 1), "ccxaaxbb")
        # No joint, and no item.
        told = [done_by_numbers("abc", "x", []), done_by_numbers("axb", "x", []), done_by_numbers("", "", []),
                road_of("abc", "", []), numbers_of("", "x", []), done_by_numbers_often("abc", "x", [], GREAT),
                done_by_numbers_often("axbx", "x", [1, 0], 0)]
        self.assertEqual(told, ["abc", "axb", "", [], [], "abc", "axbx"])

    def test_1000_items_and_300_letters(self):
        draw = random.Random(7)
        word = "".join(draw.choice(ALPHABET) for _ in range(300))
        count = len(open_places(word, "aeiou"))
        numbers = [draw.randrange(count) for _ in range(1000)]
        made, road = plain_numbers(word, "aeiou", numbers)
        self.assertEqual(done_by_numbers(word, "aeiou", numbers), made)
        self.assertEqual([road_of(word, "aeiou", numbers), numbers_of(word, "aeiou", road)], [road, numbers])
        twice = plain_numbers(made, "aeiou", numbers)[0]
        self.assertEqual(done_by_numbers_often(word, "aeiou", numbers, 2), twice)
        self.assertEqual(done(word, "aeiou", road), made)

    def test_refused(self):
        good = {"word": "axbyc", "joints": "xy", "numbers": [1, 0]}
        for function in (done_by_numbers, road_of):
            check_refusals(self, function, good, {**WRONG, "numbers": (InvalidRoad, NOT_NUMBERS)})
        check_refusals(self, done_by_numbers_often, {**good, "times": 2},
                       {**WRONG, "numbers": (InvalidRoad, NOT_NUMBERS), "times": (InvalidNumber, NOT_COUNTS)})
        roads = NOT_LISTS + [[0], [1, 0], [5], [-1], [True], [1, "1"], [None], [[1]], [1, 1, 2]]
        check_refusals(self, numbers_of, {"word": "axbyc", "joints": "xy", "road": [1, 1]},
                       {**WRONG, "road": (InvalidRoad, roads)})
        for function in (done_by_numbers, road_of):
            check_refusals(self, function, {"word": "abc", "joints": "x", "numbers": []},
                           {"numbers": (InvalidRoad, [[0], (), None])})
        check_refusals(self, numbers_order, {"count": 2, "numbers": [0]},
                       {"count": SIZES, "numbers": (InvalidRoad, NOT_NUMBERS)})


class PartingTest(unittest.TestCase):
    def plain_parting(self, joints, count, one, other, letters, bodies):
        """The first word over some letters with at most so many bodies, by trying all of them."""
        for size in range(count, count + bodies + 1):
            for word in words_over(letters, size):
                if len(open_places(word, joints)) == count:
                    if plain_numbers(word, joints, one)[0] != plain_numbers(word, joints, other)[0]:
                        return word
        return None

    def test_against_words(self):
        cases = [("xy", "abxy"), ("x", "ax"), ("ab", "abc"), ("a", "abc"), ("abc", "abcd"), ("bc", "abc"), ("", "a")]
        for joints, letters in cases:
            for count in range(4):
                lists = programs_up_to(count, 3) if count < 3 else programs_up_to(count, 2)
                for one, other in itertools.product(lists, lists[::3]):
                    plain = self.plain_parting(joints, count, one, other, letters, 2)
                    self.assertEqual(numbers_parting(joints, count, one, other), plain, (joints, one, other))

    def test_ordinary(self):
        told = [numbers_parting("xy", 2, [0], [1]), numbers_parting("ab", 2, [0], [1]),
                numbers_parting("x", 2, [0, 0, 0], []), numbers_parting("xy", 3, [0], [1])]
        self.assertEqual(told, ["axx", "aac", None, "xxy"])
        self.assertEqual(numbers_parting("bx", 2, [0], [1]), "abb")

    def test_0_and_60(self):
        for joints in ("", "x", "xyz", ALPHABET):
            self.assertIsNone(numbers_parting(joints, 0, [], []))
        self.assertEqual(numbers_parting("xy", 60, [0], [59, 59]), "x" * 59 + "y")
        self.assertEqual(numbers_parting("x", 60, [0], []), "a" + "x" * 60)
        self.assertEqual(numbers_parting("a", 60, [0], []), "a" * 60 + "b")
        self.assertIsNone(numbers_parting("x", 60, [0] * 61, []))
        self.assertIsNone(numbers_parting("", 60, [0], []))

    def test_no_letter_is_left_to_be_a_body(self):
        # The two lists turn the pieces unlike, but the joints alike.
        self.assertEqual(numbers_parting(ALPHABET[:25], 2, [0], [1]), "aaz")
        self.assertIsNone(numbers_parting(ALPHABET, 2, [0], [1]))
        self.assertEqual(numbers_parting(ALPHABET, 3, [0], [1]), "aab")

    def test_refused(self):
        good = {"joints": "xy", "count": 2, "one": [0], "other": [1]}
        check_refusals(self, numbers_parting, good, {
            "joints": (InvalidJoints, NOT_JOINTS), "count": SIZES, "one": (InvalidRoad, NOT_NUMBERS),
            "other": (InvalidRoad, NOT_NUMBERS),
        })
        check_refusals(self, numbers_parting, {**good, "joints": ""}, {"one": (InvalidRoad, [[2]])})


if __name__ == "__main__":
    unittest.main()
