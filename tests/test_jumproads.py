"""Points 67 and 68: roads by jumps of told widths, and which widths are needed."""

import itertools
import random
import unittest

from plain import NOT_JOINTS, NOT_WORDS, check_refusals, is_let, plain_deed, plain_let_class, words_up_to
from sideswaps.blocks import jumps_lead
from sideswaps.errors import InvalidJoints, InvalidList, InvalidWord
from sideswaps.jumproads import jump_fewest, jump_road, least_widths
from sideswaps.jumps import is_let_road
from sideswaps.words import done
from test_blocks import FAR, JOINTS, SEVENS, drawn_case
from test_jumps import NOT_WIDTHS, all_widths

WRONG = {
    "one": (InvalidWord, NOT_WORDS), "other": (InvalidWord, NOT_WORDS), "joints": (InvalidJoints, NOT_JOINTS),
    "widths": (InvalidList, NOT_WIDTHS),
}


def plain_fewest(word, joints, widths):
    """By how few let deeds each word comes of a word."""
    found, level, many = {word: 0}, [word], 0
    while level:
        many, later = many + 1, []
        for here in level:
            for place, letter in enumerate(here):
                if letter in joints and is_let(len(here), place, widths):
                    made = plain_deed(here, place)
                    if made not in found:
                        found[made] = many
                        later.append(made)
        level = later
    return found


def plain_least_widths(one, other, joints):
    """All least lists of widths, by trying all lists."""
    found = []
    for widths in sorted(all_widths((len(one) + 1) // 2), key=len):
        if not any(set(each) <= set(widths) for each in found) and other in plain_let_class(one, joints, widths):
            found.append(widths)
    return sorted(found)


class RoadsTest(unittest.TestCase):
    def check_roads(self, word, joints, widths, others):
        fewest = plain_fewest(word, joints, widths)
        for other in others:
            road = jump_road(word, other, joints, widths)
            self.assertEqual(jump_fewest(word, other, joints, widths), fewest.get(other), (word, other, joints, widths))
            if other not in fewest:
                self.assertIsNone(road)
            else:
                self.assertIs(is_let_road(word, joints, widths, road), True)
                self.assertEqual(done(word, joints, road), other)
                self.assertEqual(road == [], word == other)

    def test_against_deeds(self):
        draw = random.Random(1)
        for _ in range(150):
            word, joints, widths = drawn_case(draw, 7)
            others = ["".join(draw.sample(word, len(word))) for _ in range(4)] + [word, word + "x", "a"]
            members = sorted(plain_let_class(word, joints, widths))
            self.check_roads(word, joints, widths, others + [draw.choice(members) for _ in range(5)])

    def test_all_words_of_a_class(self):
        for word, joints, widths in [("xyzwv", "vwxyz", [1, 2]), ("xyxy", "xy", [1]), ("xaybz", "xyz", [2]), ("xyzw", "wxyz", [2])]:
            members = plain_let_class(word, joints, widths)
            self.check_roads(word, joints, widths, sorted(members) + ["".join(each) for each in itertools.permutations(word)])

    def test_seven_joints(self):
        # All orders of seven joints are as far as they are, and the longest roads are not short.
        for word, widths in [("tuvwxyz", [1, 2]), ("tuvwxyz", [2, 3]), ("avwtxzyu", [4, 7, 8]), ("uavwxatyz", [1, 2])]:
            fewest = plain_fewest(word, JOINTS, widths)
            far = max(fewest, key=lambda each: fewest[each])
            self.assertEqual(jump_fewest(word, far, JOINTS, widths), fewest[far])
            road = jump_road(word, far, JOINTS, widths)
            self.assertEqual([done(word, JOINTS, road), is_let_road(word, JOINTS, widths, road)], [far, True])
        # In words of 60 letters, too.
        word = "t" + "a" * 20 + "uvw" + "a" * 30 + "xyz" + "aaa"
        other = done(word, JOINTS, [0])
        self.assertEqual([jump_fewest(word, other, JOINTS, [1]), jump_road(word, other, JOINTS, [1])], [1, [0]])

    def test_seven_stars(self):
        draw = random.Random(2)
        for word, widths in SEVENS:
            if len(word) - word.count("a") == 6:
                members = sorted(plain_let_class(word, JOINTS, widths))
                self.check_roads(word, JOINTS, widths, draw.sample(members, 20) + [word.replace("x", "t"), word[::-1]])

    def test_ordinary(self):
        self.assertIs(is_let_road("xyz", "xyz", [1], jump_road("xyz", "yzx", "xyz", [1])), True)
        self.assertEqual([jump_fewest("xyz", "yxz", "xyz", [1, 2]), jump_fewest("xyz", "xzy", "xyz", [1])], [2, None])
        told = [jump_road("", "", "", []), jump_road("abc", "abc", "", []), jump_road("xy", "xy", "xy", [9]),
                jump_fewest("xyz", "xyz", "xyz", []), jump_road("xyz", "yzx", "xyz", []), jump_road("x", "xx", "x", [1])]
        self.assertEqual(told, [[], [], [], 0, None, None])

    def test_refused(self):
        for function in (jump_road, jump_fewest):
            check_refusals(self, function, {"one": "axby", "other": "xaby", "joints": "xy", "widths": [2]}, WRONG)
            check_refusals(self, function, {"one": "axby", "other": "x", "joints": "xy", "widths": [2]}, WRONG)


class WidthsTest(unittest.TestCase):
    def test_against_all_widths(self):
        draw = random.Random(3)
        for _ in range(150):
            word, joints, _ = drawn_case(draw, 6)
            others = ["".join(draw.sample(word, len(word))), word, word[::-1], word + "x", word[1:]]
            for other in others + [draw.choice(sorted(plain_let_class(word, joints, range(1, 9))))]:
                self.assertEqual(least_widths(word, other, joints), plain_least_widths(word, other, joints), (word, other))

    def test_all_words(self):
        for one in words_up_to("axy", 3):
            for other in words_up_to("axy", 3):
                told = least_widths(one, other, "xy")
                self.assertEqual(told, plain_least_widths(one, other, "xy"))
                for widths in all_widths(2):
                    leads = any(set(each) <= set(widths) for each in told)
                    if len(one) == 3:
                        self.assertIs(jumps_lead(one, other, "xy", widths), leads)

    def test_twelve_letters(self):
        # A ring of 13 cells has widths up to 6.
        one = "tauavwxaayaz"
        for other in ("uataxwvaayaz", done(one, JOINTS, [0]), done(one, JOINTS, [2, 3]), "zayaaxwvauat", one):
            told = least_widths(one, other, JOINTS)
            self.assertEqual(told, sorted(told))
            for widths in all_widths(6):
                leads = any(set(each) <= set(widths) for each in told)
                self.assertIs(jumps_lead(one, other, JOINTS, widths), leads)
        few = "taaavaaaxaaz"
        self.assertEqual(least_widths(few, few[::-1], JOINTS), plain_least_widths(few, few[::-1], JOINTS))
        self.assertEqual(least_widths("x" + "a" * 11, "a" * 11 + "x", "x"), [[1]])
        self.assertEqual(least_widths("aaaaaxaaaaaa", "aaaaaaxaaaaa", "x"), [[6]])
        self.assertEqual(least_widths(FAR + "a", FAR + "a", ""), [[]])

    def test_ordinary(self):
        self.assertEqual([least_widths("", "", ""), least_widths("ab", "ba", ""), least_widths("ab", "abc", "abc")], [[[]], [], []])
        self.assertEqual([least_widths("xy", "yx", "xy"), least_widths("xyz", "zyx", "xyz")], [[[1]], [[2]]])
        self.assertEqual(least_widths("xyz", "xzy", "xyz"), [[1, 2]])

    def test_refused(self):
        check_refusals(self, least_widths, {"one": "axby", "other": "xaby", "joints": "xy"},
                       {name: WRONG[name] for name in ("one", "other", "joints")})


if __name__ == "__main__":
    unittest.main()
