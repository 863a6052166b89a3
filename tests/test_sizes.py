"""Points 15 and 16: how many words a class has, and into how many it falls."""

import math
import unittest

from plain import NOT_JOINTS, NOT_WORDS, check_refusals, plain_class, plain_classes, words_up_to
from sideswaps.errors import InvalidJoints, InvalidWord, TooMany
from sideswaps.rings import ring_turns
from sideswaps.sizes import class_size, class_words, parts_by

JOINTS = ("", "x", "xy", "axy")
GOOD = {"word": "axbyc", "joints": "xy"}
WRONG = {"word": (InvalidWord, NOT_WORDS), "joints": (InvalidJoints, NOT_JOINTS)}


class SizesTest(unittest.TestCase):
    def test_against_deeds(self):
        for joints in JOINTS:
            for word, members in plain_classes(words_up_to("axy", 5), joints).items():
                self.assertEqual(class_size(word, joints), len(members), (word, joints))
                self.assertEqual(class_words(word, joints), members, (word, joints))

    def test_more_letters(self):
        for word, joints in [("abxaybz", "xyz"), ("uvwxyz", "uvwxyz"), ("xxaxxaxx", "x"), ("xyaxyax", "xy"),
                             ("xaxaxaxa", "x"), ("xyzaxyza", "xyz"), ("xxyyab", "xy")]:
            members = plain_class(word, joints)
            self.assertEqual(class_size(word, joints), len(members))
            self.assertEqual(class_words(word, joints), members)

    def test_ordinary(self):
        self.assertEqual([class_size("xay", "xy"), class_size("xax", "x"), class_size("xy", "xy")], [6, 3, 2])
        self.assertEqual([class_size("ab", ""), class_size("", "x"), class_size("xyxax", "xyz")], [1, 1, 20])
        self.assertEqual(class_words("xay", "xy"), ["axy", "ayx", "xay", "xya", "yax", "yxa"])
        self.assertEqual(class_words("", "x"), [""])
        self.assertEqual(class_words("ab", "x"), ["ab"])

    def test_longest_words(self):
        word = "xay" * 100
        self.assertEqual(ring_turns(word, "xy"), 1)
        self.assertEqual(class_size(word, "xy"), math.factorial(201) // math.factorial(100) ** 2)
        self.assertEqual(class_size("x" * 300, "x"), 1)
        self.assertEqual(class_size("xy" * 150, "xy"), math.comb(300, 150))
        # Turnings by 3 of 300 cells leave this ring as it is: 200 stars in 100 rounds.
        word = "xa" + "xxa" * 99
        self.assertEqual(ring_turns(word, "x"), 100)
        self.assertEqual(class_size(word, "x"), 2)
        self.assertEqual(class_words(word, "x"), ["axx" * 99 + "ax", "xa" + "xxa" * 99])
        self.assertEqual(class_words("a" * 299 + "x", "x"), sorted(class_words("xa" + "a" * 298, "x")))

    def test_most_words_told(self):
        # 2,000 and 2,001 words exactly: one body and joints of one kind have as many words as stars.
        told = class_words("x" * 1999 + "a", "x")
        self.assertEqual(told, ["x" * k + "a" + "x" * (1999 - k) for k in range(2000)])
        self.assert_too_many("x" * 2000 + "a", "x", 2001)

    def test_most_words_within_300_letters(self):
        word = "y" + "x" * 198 + "a"
        self.assertEqual(class_size(word, "xy"), 200 * 199)
        self.assert_too_many(word, "xy", 200 * 199)
        # 200 stars in 10 rounds: 20 cells for the hole, 199 others for the one other joint.
        ring = ("x" * 20 + "a") * 10
        word = "y" + ring[2:]
        self.assertEqual(class_size(word, "xy"), 20 * 199)
        self.assert_too_many(word, "xy", 3980)
        ring = ("x" * 10 + "a") * 20
        word = "y" + ring[2:]
        told = class_words(word, "xy")
        self.assertEqual(len(told), 1990)
        self.assertEqual(told, sorted(set(told)))
        self.assert_too_many("xxxxxxaxxxxyyya", "xy", 2002)

    def assert_too_many(self, word, joints, many):
        with self.assertRaises(TooMany) as caught:
            class_words(word, joints)
        self.assertEqual(caught.exception.value, many)

    def test_refused(self):
        for function in (class_size, class_words):
            check_refusals(self, function, GOOD, WRONG)
        # What is wrong is told ahead of how many words there are.
        with self.assertRaises(InvalidJoints):
            class_words("x" * 2000 + "a", "yx")


class PartsTest(unittest.TestCase):
    def check_parts(self, word, joints, fewer):
        members = plain_class(word, joints)
        parts = {plain_class(each, fewer)[0] for each in members}
        for each in members[:3] + members[-1:]:
            self.assertEqual(parts_by(each, joints, fewer), len(parts), (each, joints, fewer))

    def test_against_deeds(self):
        for word in words_up_to("axy", 5):
            for joints, fewer in [("xy", ""), ("xy", "x"), ("xy", "y"), ("xy", "xy"), ("axy", "a"), ("axy", ""),
                                  ("axy", "xy"), ("x", ""), ("", "")]:
                self.check_parts(word, joints, fewer)

    def test_turnings(self):
        for word in ["xyaxya", "xxyaxxya", "xyxyxyx", "xxyyxxy", "xaxaxya", "xyzaxyza", "zxaxzax", "xyxaxyxa"]:
            for fewer in ("", "x", "y", "xy", "yz"):
                self.check_parts(word, "xyz", fewer)
        self.check_parts("xxyxxyxx", "xy", "x")
        self.check_parts("xxyxxyxx", "xy", "y")
        self.check_parts("xyxyx", "xy", "")

    def test_ordinary(self):
        self.assertEqual([parts_by("xay", "xy", "x"), parts_by("xy", "xy", "x"), parts_by("xay", "xy", "")], [3, 1, 6])
        self.assertEqual(parts_by("", "", ""), 1)

    def test_longest_words(self):
        word = "xay" * 100
        self.assertEqual(parts_by(word, "xy", "xy"), 1)
        self.assertEqual(parts_by(word, "xy", ""), class_size(word, "xy"))
        self.assertEqual(parts_by(word, "xy", "x"), math.comb(201, 100))
        # All cells are stars: 301 is 7 * 43, so some turnings keep what is put on them.
        told = parts_by("x" * 258 + "y" * 42, "xy", "x")
        self.assertEqual(told, (math.comb(301, 42) + 6 * math.comb(43, 6)) // 301)

    def test_refused(self):
        more = ["xyz", "z", "axy"]
        check_refusals(self, parts_by, {**GOOD, "fewer": "x"}, {**WRONG, "fewer": (InvalidJoints, NOT_JOINTS + more)})


if __name__ == "__main__":
    unittest.main()
