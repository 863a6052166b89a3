"""Points 17 and 18: the words of a class by their numbers."""

import unittest

from plain import NOT_COUNTS, NOT_JOINTS, NOT_WORDS, check_refusals, plain_classes, words_over, words_up_to
from sideswaps.classes import comes, first_word, last_word
from sideswaps.errors import InvalidJoints, InvalidNumber, InvalidWord
from sideswaps.numbering import first_from, how_many_ahead, next_word, word_numbered
from sideswaps.sizes import class_size

JOINTS = ("", "x", "xy", "axy")
GOOD = {"word": "xay", "joints": "xy"}
WRONG = {"word": (InvalidWord, NOT_WORDS), "joints": (InvalidJoints, NOT_JOINTS)}


class NumberingTest(unittest.TestCase):
    def test_against_deeds(self):
        for joints in JOINTS:
            for word, members in plain_classes(words_up_to("axy", 4), joints).items():
                for number, member in enumerate(members):
                    self.assertEqual(how_many_ahead(word, joints, member), number)
                    self.assertEqual(word_numbered(word, joints, number), member)
                behind = members[members.index(word) + 1:]
                self.assertEqual(next_word(word, joints), behind[0] if behind else None)

    def test_any_text(self):
        for joints in JOINTS:
            for word, members in plain_classes(words_over("axy", 3), joints).items():
                for text in words_up_to("abxyz", 3) + ["aaaa", "zzzz"]:
                    ahead = [each for each in members if (len(each), each) < (len(text), text)]
                    self.assertEqual(how_many_ahead(word, joints, text), len(ahead))
                    left = members[len(ahead):]
                    self.assertEqual(first_from(word, joints, text), left[0] if left else None)

    def test_ordinary(self):
        told = [how_many_ahead("xay", "xy", text) for text in ("xay", "b", "zzzz", "", "zzz", "aaa")]
        self.assertEqual(told, [2, 0, 6, 0, 6, 0])
        self.assertEqual([word_numbered("xay", "xy", 3), next_word("xay", "xy"), next_word("yxa", "xy")],
                         ["xya", "xya", None])
        self.assertEqual([first_from("xay", "xy", "b"), first_from("xay", "xy", "zzz"), first_from("xay", "xy", "ayz")],
                         ["axy", None, "xay"])
        self.assertEqual([how_many_ahead("", "x", ""), how_many_ahead("", "x", "a"), word_numbered("", "x", 0)],
                         [0, 1, ""])
        self.assertEqual([next_word("", "x"), first_from("", "", ""), first_from("", "", "a")], [None, "", None])

    def test_longest_words(self):
        letters = "abcdefghijklmnopqrstuvwxyz"
        for word, joints in [("xay" * 20, "xy"), ("xy" * 30, "xy"), (letters * 2 + "abcdefgh", letters),
                             (letters * 2 + "abcdefgh", "bdfhjlnprtvxz"), ("xxa" * 19 + "xxx", "x")]:
            size = class_size(word, joints)
            for number in (0, 1, size // 7, size // 2, size - 2, size - 1):
                found = word_numbered(word, joints, number)
                self.assertIs(comes(word, found, joints), True)
                self.assertEqual(how_many_ahead(word, joints, found), number)
                self.assertEqual(first_from(word, joints, found), found)
                behind = word_numbered(word, joints, number + 1) if number + 1 < size else None
                self.assertEqual(next_word(found, joints), behind)
                if behind is not None:
                    self.assertLess(found, behind)
            self.assertEqual(word_numbered(word, joints, 0), first_word(word, joints))
            self.assertEqual(word_numbered(word, joints, size - 1), last_word(word, joints))

    def test_refused(self):
        check_refusals(self, next_word, GOOD, WRONG)
        for function in (how_many_ahead, first_from):
            check_refusals(self, function, {**GOOD, "text": "axy"}, {**WRONG, "text": (InvalidWord, NOT_WORDS)})
        check_refusals(self, word_numbered, {**GOOD, "number": 5},
                       {**WRONG, "number": (InvalidNumber, NOT_COUNTS + [6, 7, 10 ** 29])})
        check_refusals(self, word_numbered, {"word": "ab", "joints": "", "number": 0}, {"number": (InvalidNumber, [1])})


if __name__ == "__main__":
    unittest.main()
