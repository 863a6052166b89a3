"""Points 19 and 20: what letters the words of a class have, and where."""

import fractions
import math
import unittest

from plain import NOT_COUNTS, NOT_JOINTS, NOT_WORDS, check_refusals, plain_classes, words_over, words_up_to
from sideswaps.errors import InvalidJoints, InvalidNumber, InvalidWord
from sideswaps.means import how_many_with, letters_at, mean_of
from sideswaps.sizes import class_size

JOINTS = ("", "x", "xy", "axy")
GOOD = {"word": "xay", "joints": "xy"}
WRONG = {"word": (InvalidWord, NOT_WORDS), "joints": (InvalidJoints, NOT_JOINTS)}


class MeansTest(unittest.TestCase):
    def test_how_many_with(self):
        texts = words_up_to("abxy", 2) + ["xxx", "axa", "xay", "yxyx", "aaaaa"]
        for joints in JOINTS:
            for word, members in plain_classes(words_up_to("axy", 4), joints).items():
                for place in range(len(word) + 1):
                    for text in texts:
                        having = [each for each in members if each[place:place + len(text)] == text]
                        self.assertEqual(how_many_with(word, joints, place, text), len(having), (word, place, text))

    def test_letters_at(self):
        for joints in JOINTS:
            for word, members in plain_classes(words_up_to("axy", 4), joints).items():
                for place in range(len(word)):
                    here = [each[place] for each in members]
                    told = letters_at(word, joints, place)
                    self.assertEqual(told, [(letter, here.count(letter)) for letter in sorted(set(here))])
                    self.assertEqual(sum(number for _, number in told), class_size(word, joints))

    def test_mean_of(self):
        for joints in JOINTS:
            for word, members in plain_classes(words_up_to("axy", 4), joints).items():
                for text in words_over("abxy", 1) + words_over("abxy", 2) + ["xxx", "aya", "xayx", "aaaaaa"]:
                    found = [each[place:].startswith(text) for each in members for place in range(len(each))]
                    mean = fractions.Fraction(sum(found), len(members))
                    self.assertEqual(mean_of(word, joints, text), (mean.numerator, mean.denominator))

    def test_ordinary(self):
        self.assertEqual([how_many_with("xay", "xy", 0, "a"), how_many_with("xay", "xy", 1, "y")], [2, 2])
        self.assertEqual([how_many_with("xay", "xy", 3, ""), how_many_with("xay", "xy", 0, "")], [6, 6])
        self.assertEqual([how_many_with("xay", "xy", 3, "a"), how_many_with("xay", "xy", 2, "ax")], [0, 0])
        self.assertEqual([how_many_with("", "x", 0, ""), how_many_with("", "x", 0, "x")], [1, 0])
        self.assertEqual(letters_at("xax", "x", 0), [("a", 1), ("x", 2)])
        self.assertEqual([mean_of("xay", "xy", "xy"), mean_of("xay", "xy", "b")], [(1, 3), (0, 1)])
        self.assertEqual([mean_of("xxx", "x", "xx"), mean_of("aaaa", "x", "aa"), mean_of("", "", "a")],
                         [(2, 1), (3, 1), (0, 1)])

    def test_longest_words(self):
        letters = "abcdefghijklmnopqrstuvwxyz"
        for word, joints in [("xay" * 20, "xy"), (letters * 2 + "abcdefgh", letters)]:
            size = class_size(word, joints)
            for place in (0, 30, 59):
                told = letters_at(word, joints, place)
                self.assertEqual(sum(number for _, number in told), size)
                for letter, number in told:
                    self.assertEqual(how_many_with(word, joints, place, letter), number)
            # Every letter stands just so often in each word.
            for letter in sorted(set(word)):
                self.assertEqual(mean_of(word, joints, letter), (word.count(letter), 1))
            self.assertEqual(how_many_with(word, joints, 60, ""), size)
            self.assertEqual(how_many_with(word, joints, 60, "a"), 0)
        mean = fractions.Fraction(31, math.comb(60, 30))
        self.assertEqual(mean_of("xy" * 30, "xy", "x" * 30), (mean.numerator, mean.denominator))
        self.assertEqual(how_many_with("xy" * 30, "xy", 0, "x" * 31), 0)

    def test_refused(self):
        check_refusals(self, how_many_with, {**GOOD, "place": 1, "text": "a"}, {
            **WRONG, "place": (InvalidNumber, NOT_COUNTS + [4, 10 ** 29]), "text": (InvalidWord, NOT_WORDS),
        })
        check_refusals(self, letters_at, {**GOOD, "place": 1},
                       {**WRONG, "place": (InvalidNumber, NOT_COUNTS + [3, 4, 10 ** 29])})
        check_refusals(self, letters_at, {"word": "", "joints": "", "place": 0}, {"place": (InvalidNumber, [0])})
        check_refusals(self, mean_of, {**GOOD, "text": "a"}, {**WRONG, "text": (InvalidWord, NOT_WORDS + [""])})


if __name__ == "__main__":
    unittest.main()
