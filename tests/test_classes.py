"""Points 11 to 14: which words come of which."""

import itertools
import unittest

from plain import NOT_JOINTS, NOT_LISTS, NOT_WORDS, check_refusals, plain_class, plain_classes, plain_deed, words_over
from plain import words_up_to
from sideswaps.classes import bar, classes_of, comes, first_word, is_bar, last_word, leads_to, parted_by, road
from sideswaps.errors import InvalidJoints, InvalidList, InvalidWord
from sideswaps.rings import star_ring
from sideswaps.words import done, is_road

JOINTS = ("", "x", "xy", "axy")
TWO = {"one": "axbyc", "other": "cxayb", "joints": "xy"}
TWO_WRONG = {
    "one": (InvalidWord, NOT_WORDS), "other": (InvalidWord, NOT_WORDS), "joints": (InvalidJoints, NOT_JOINTS),
}


class ComesTest(unittest.TestCase):
    def test_against_deeds(self):
        words = words_up_to("axy", 4)
        for joints in JOINTS:
            found = plain_classes(words, joints)
            for one in words:
                for other in words:
                    self.assertIs(comes(one, other, joints), other in found[one], (one, other, joints))

    def test_bar(self):
        self.assertIsNone(bar("abxc", "cxab", "x"))
        self.assertEqual(bar("abxc", "baxc", "x"), ("ring", "*ab*c", "*ba*c"))
        self.assertEqual(bar("ax", "ay", "xy"), ("joint", "x", 1, 0))
        self.assertEqual(bar("axzz", "axyy", "xyz"), ("joint", "y", 0, 2))
        self.assertEqual(bar("", "x", "x"), ("ring", "*", "**"))
        self.assertEqual(bar("x" * 300, "x" * 299 + "y", "xy"), ("joint", "x", 300, 299))

    def test_bar_or_road(self):
        words = words_up_to("axy", 4)
        for joints in JOINTS:
            for one in words:
                for other in words:
                    told = bar(one, other, joints)
                    self.assertIs(told is None, comes(one, other, joints))
                    if told is not None:
                        self.assertIs(is_bar(one, other, joints, told), True)
                        rings = star_ring(one, joints), star_ring(other, joints)
                        self.assertEqual(told[0] == "ring", rings[0] != rings[1])

    def test_is_bar(self):
        for one, other, value in [
            ("ax", "ay", ("joint", "x", 1, 0)), ("ax", "ay", ("joint", "y", 0, 1)),
            ("abxc", "baxc", ("ring", "*ab*c", "*ba*c")), ("x", "", ("joint", "x", 1, 0)), ("x", "", ("ring", "**", "*")),
        ]:
            self.assertIs(is_bar(one, other, "xy", value), True, value)

    def test_is_no_bar(self):
        for value in [
            None, True, 1, "", (), [], {}, ("joint",), ("joint", "x", 1), ["joint", "x", 1, 0], ("joint", "x", 0, 1),
            ("joint", "x", True, False), ("joint", "x", 1, False), ("joint", "x", True, 0), ("joint", "a", 1, 1),
            ("joint", "z", 0, 0), ("joint", "xy", 1, 0), ("joint", "", 3, 3), ("joint", ["x"], 1, 0),
            ("joint", "x", 1, 1), ("joint", "x", 2, 0), ("joint", "x", 1, 2), ("joint", "x", 1, 0, 0), ("joint", None, 1, 0), ("ring", "**a", "**a"),
            ("ring", "x", 1, 0), ("joint", "**a", "**a"), ("ring", "*a*", "**a"), (("joint", "x", 1, 0),),
            (["joint"], "x", 1, 0), ("joint", "x", "1", "0"),
        ]:
            self.assertIs(is_bar("ax", "ay", "xy", value), False, value)
        for value in [("ring", "*ba*c", "*ab*c"), ("ring", "*ab*c", "*ab*c"), ["ring", "*ab*c", "*ba*c"],
                      ("ring", "ab*c*", "*ba*c"), ("joint", "x", 1, 1), ("joint", "a", 1, 1),
                      ("ring", "*ab*c", "*ba*c", None), ("ring", "*ab*c")]:
            self.assertIs(is_bar("abxc", "baxc", "x", value), False, value)
        # A letter that is no joint tells nothing, however often it stands in the words.
        self.assertIs(is_bar("aax", "abx", "x", ("joint", "a", 2, 1)), False)
        self.assertIs(is_bar("ax", "xa", "x", ("joint", "x", 1, 1)), False)

    def test_refused(self):
        for function in (comes, bar, road, parted_by):
            check_refusals(self, function, TWO, TWO_WRONG)
        for function in (is_bar, leads_to):
            check_refusals(self, function, {**TWO, "value": None}, TWO_WRONG)

    def test_longest_words(self):
        one, other = "xaby" * 75, "yabx" * 75
        self.assertIs(comes(one, other, "xy"), True)
        self.assertIsNone(bar(one, other, "xy"))
        self.assertIs(is_bar(one, other, "xy", ("joint", "x", 75, 74)), False)
        self.assertIs(comes("ab" * 150, "ba" * 150, "xy"), False)


class RoadTest(unittest.TestCase):
    def check_road(self, one, other, joints):
        told = road(one, other, joints)
        many = len([letter for letter in one if letter in joints])
        self.assertIs(leads_to(one, other, joints, told), True)
        self.assertIs(is_road(one, joints, told), True)
        self.assertEqual(done(one, joints, told), other)
        self.assertLessEqual(len(told), many + many // 2)
        return told

    def test_roads(self):
        for joints in JOINTS:
            for members in plain_classes(words_up_to("axy", 4), joints).values():
                for one in members:
                    for other in members:
                        self.check_road(one, other, joints)

    def test_many_kinds_of_joints(self):
        for size in range(1, 7):
            for order in itertools.permutations("uvwxyz"[:size]):
                self.check_road("uvwxyz"[:size], "".join(order), "uvwxyz")

    def test_no_road(self):
        self.assertIsNone(road("abxc", "baxc", "x"))
        self.assertIsNone(road("ax", "ay", "xy"))
        self.assertIsNone(road("x", "xx", "x"))
        self.assertIsNone(road("ax", "xa", ""))

    def test_equal_words(self):
        for word in ["", "a", "axa", "xxx", "xyxy", "axax"]:
            self.assertEqual(road(word, word, "xy"), [])

    def test_longest_words(self):
        letters = "abcdefghijklmnopqrstuvwxyz"
        one = letters + letters + "abcdefgh"
        self.check_road(one, one[::-1], letters)
        self.check_road("xy" * 30, "yx" * 30, "xy")

    def test_leads_to(self):
        self.assertIs(leads_to("xay", "xya", "xy", [2, 0]), False)
        self.assertIs(leads_to("axbyc", "cxayb", "xy", [1, 1]), True)
        for value in [None, True, (1, 1), "11", [1], [1, True], [1, 1, 1], [0], [9], {}]:
            self.assertIs(leads_to("axbyc", "cxayb", "xy", value), False, value)
        self.assertIs(leads_to("axa", "axa", "x", [1] * 1000), True)
        self.assertIs(leads_to("axa", "axb", "x", []), False)


class FirstAndLastTest(unittest.TestCase):
    def test_against_deeds(self):
        for joints in JOINTS:
            for word, members in plain_classes(words_up_to("abxy", 4), joints).items():
                self.assertEqual(first_word(word, joints), members[0])
                self.assertEqual(last_word(word, joints), members[-1])

    def test_ordinary(self):
        self.assertEqual(first_word("yxa", "xy"), "axy")
        self.assertEqual(last_word("xay", "xy"), "yxa")
        self.assertEqual(first_word("", "xy"), "")
        self.assertEqual(last_word("ba", ""), "ba")

    def test_longest_words(self):
        word = "yxa" * 100
        self.assertEqual(first_word(word, "xy"), "a" + "xxa" * 49 + "xxa" + "yya" * 49 + "yy")
        self.assertEqual(last_word("xy" * 150, "xy"), "y" * 150 + "x" * 150)

    def test_refused(self):
        for function in (first_word, last_word):
            check_refusals(self, function, {"word": "axbyc", "joints": "xy"},
                           {"word": (InvalidWord, NOT_WORDS), "joints": (InvalidJoints, NOT_JOINTS)})


class ClassesOfTest(unittest.TestCase):
    def test_ordinary(self):
        self.assertEqual(classes_of(["ax", "by", "xa", "ax", "yb"], "xy"), [[0, 2, 3], [1, 4]])
        self.assertEqual(classes_of([], "xy"), [])
        self.assertEqual(classes_of(["", "", "x"], "x"), [[0, 1], [2]])
        self.assertEqual(classes_of(["a", "b", "a"], ""), [[0, 2], [1]])

    def test_against_deeds(self):
        words = words_over("axy", 3)[::-1] + words_over("axy", 2)
        for joints in JOINTS:
            found = plain_classes(words, joints)
            told = classes_of(words, joints)
            self.assertEqual([numbers[0] for numbers in told], sorted([numbers[0] for numbers in told]))
            self.assertEqual(sorted(sum(told, [])), list(range(len(words))))
            for numbers in told:
                members = found[words[numbers[0]]]
                self.assertEqual(numbers, [k for k, word in enumerate(words) if word in members])

    def test_many_long_words(self):
        words = ["x" * k + "a" + "y" * (299 - k) for k in range(200)]
        self.assertEqual(classes_of(words, "xy"), [[k] for k in range(200)])
        words = ["x" * k + "a" + "x" * (299 - k) for k in range(200)]
        self.assertEqual(classes_of(words, "xy"), [list(range(200))])

    def test_refused(self):
        check_refusals(self, classes_of, {"words": ["ax"], "joints": "xy"},
                       {"words": (InvalidList, NOT_LISTS), "joints": (InvalidJoints, NOT_JOINTS)})
        check_refusals(self, classes_of, {"words": [], "joints": "xy"}, {"joints": (InvalidJoints, NOT_JOINTS)})
        for wrong in NOT_WORDS:
            for joints in ("xy", "yx"):
                with self.assertRaises(InvalidWord) as caught:
                    classes_of(["ax", wrong, "B"], joints)
                self.assertIs(caught.exception.value, wrong)


class PartedByTest(unittest.TestCase):
    def test_ordinary(self):
        self.assertIsNone(parted_by("axy", "ayx", "xy"))
        self.assertEqual(parted_by("ax", "xa", "x"), ("", "a"))
        self.assertEqual(parted_by("a", "b", "x"), ("", ""))
        self.assertEqual(parted_by("", "a", "x"), ("", ""))
        self.assertIsNone(parted_by("", "", ""))
        self.assertEqual(parted_by("x", "a", "x"), ("", ""))

    def test_first_letter_need_not_be_a(self):
        # Behind both words an "a" makes rings that are turnings of one another; a "b" does not.
        self.assertEqual(parted_by("axx", "xax", "x"), ("", "b"))
        self.assertEqual(parted_by("xxax", "axxx", "x"), ("", "b"))
        for one, other in [("aax", "axa"), ("axx", "xax")]:
            self.check_pair(one, other, "x")

    def check_pair(self, one, other, joints):
        told = parted_by(one, other, joints)
        alike = [one, other]
        for letter in joints:
            alike = [word.replace(letter, "*") for word in alike]
        same = alike[0] == alike[1] and all(one.count(letter) == other.count(letter) for letter in joints)
        self.assertIs(told is None, same, (one, other))
        if told is None:
            for u, v in itertools.product(words_up_to("abx", 2), repeat=2):
                self.assertIn(u + other + v, plain_class(u + one + v, joints))
            return
        self.assertEqual(told[0], "")
        self.assertLessEqual(len(told[1]), 1)
        parted = [v for v in [""] + list("abcdefghijklmnopqrstuvwxyz")
                  if other + v not in plain_class(one + v, joints)]
        self.assertEqual(told[1], parted[0])

    def test_against_deeds(self):
        for one in words_up_to("axy", 3):
            for other in words_up_to("axy", 3):
                if len(one) == len(other):
                    self.check_pair(one, other, "xy")

    def test_largest(self):
        joints = "abcdefghijklmnopq"
        self.assertIsNone(parted_by("abcdefgz", "gfedcbaz", joints))
        self.assertEqual(parted_by("zabcdefg", "abcdefgz", joints)[0], "")
        self.assertEqual(parted_by("rstuvwxa", "arstuvwx", joints), ("", "r"))
        self.assertEqual(parted_by("rstuvwxy", "rstuvwxz", joints), ("", ""))


if __name__ == "__main__":
    unittest.main()
