"""Points 21 to 23: the classes of all words of one length."""

import math
import time
import unittest

from plain import NOT_COUNTS, NOT_JOINTS, NOT_WORDS, check_refusals, plain_classes, words_over
from sideswaps.classes import first_word
from sideswaps.errors import InvalidJoints, InvalidNumber, InvalidWord, TooMany
from sideswaps.lengths import classes_by_size, first_words, how_many_classes, how_many_pairs

ALPHABET = "abcdefghijklmnopqrstuvwxyz"
CASES = [("a", ""), ("x", "x"), ("ab", ""), ("ax", "x"), ("ax", "xyz"), ("abx", "x"), ("abx", "yz"), ("axy", "xy"),
         ("xy", "xy"), ("xyz", "xyz"), ("abxy", "xy"), ("abc", "b")]
GOOD = {"letters": "abx", "joints": "x", "length": 2}
NOT_LETTERS = NOT_JOINTS + [""]
WRONG = {
    "letters": (InvalidWord, NOT_LETTERS), "joints": (InvalidJoints, NOT_JOINTS), "length": (InvalidNumber, NOT_COUNTS),
}


class LengthsTest(unittest.TestCase):
    def test_against_deeds(self):
        for letters, joints in CASES:
            for length in range(6 if len(letters) < 4 else 5):
                found = plain_classes(words_over(letters, length), joints)
                firsts = sorted({members[0] for members in found.values()})
                sizes = [len(found[first]) for first in firsts]
                arguments = (letters, joints, length)
                self.assertEqual(how_many_classes(*arguments), len(firsts), arguments)
                self.assertEqual(first_words(*arguments), firsts, arguments)
                self.assertEqual(classes_by_size(*arguments), [(k, sizes.count(k)) for k in sorted(set(sizes))])
                self.assertEqual(how_many_pairs(*arguments), sum(size ** 2 for size in sizes), arguments)

    def test_longer_words(self):
        for letters, joints, length in [("ax", "x", 11), ("xy", "xy", 9), ("axy", "xy", 7), ("xyz", "xyz", 6)]:
            firsts = sorted({first_word(word, joints) for word in words_over(letters, length)})
            self.assertEqual(how_many_classes(letters, joints, length), len(firsts))
            self.assertEqual(first_words(letters, joints, length), firsts)

    def test_ordinary(self):
        self.assertEqual([how_many_classes("ax", "x", 2), how_many_classes("abx", "x", 2)], [3, 7])
        self.assertEqual([how_many_classes("ab", "", 9), how_many_classes("ab", "xyz", 9)], [512, 512])
        self.assertEqual([how_many_classes("abx", "x", 0), how_many_classes("x", "x", 7)], [1, 1])
        self.assertEqual([classes_by_size("abx", "x", 2), how_many_pairs("abx", "x", 2)], [[(1, 5), (2, 2)], 13])
        self.assertEqual([classes_by_size("ab", "", 3), classes_by_size("x", "x", 0)], [[(1, 8)], [(1, 1)]])
        self.assertEqual(first_words("abx", "x", 2), ["aa", "ab", "ax", "ba", "bb", "bx", "xx"])
        self.assertEqual([first_words("abx", "x", 0), first_words("x", "x", 2)], [[""], ["xx"]])

    def test_all_words_are_counted(self):
        for letters, joints, length in [("abx", "x", 24), ("abxyz", "xyz", 24), ("xyz", "xyz", 23), (ALPHABET, "abc", 24),
                                        ("ab", "", 24)]:
            told = classes_by_size(letters, joints, length)
            self.assertEqual(sum(size * number for size, number in told), len(letters) ** length)
            self.assertEqual([size for size, _ in told], sorted({size for size, _ in told}))
            self.assertTrue(all(number > 0 for _, number in told))
            self.assertEqual(sum(number for _, number in told), how_many_classes(letters, joints, length))
            self.assertEqual(sum(size ** 2 * number for size, number in told), how_many_pairs(letters, joints, length))

    def test_lengths_of_200_and_60(self):
        # 199 cells are a prime number, so that only rings of equal cells can be turned.
        self.assertEqual(how_many_classes("ax", "x", 198), (2 ** 199 - 2) // 199 + 1)
        self.assertEqual(how_many_classes("xy", "xy", 200), 201)
        self.assertEqual(how_many_classes("a", "", 200), 1)
        self.assertEqual(how_many_classes("ab", "", 200), 2 ** 200)
        for bodies in (1, 3):
            # With one joint the classes are the necklaces with a star: all but those of bodies alone.
            with_stars = self.plain_necklaces(201, bodies + 1) - self.plain_necklaces(201, bodies)
            self.assertEqual(how_many_classes("abc"[:bodies] + "x", "x", 200), with_stars)
        self.assertEqual(how_many_pairs("xy", "xy", 60), math.comb(120, 60))
        self.assertEqual(how_many_pairs("ab", "", 60), 2 ** 60)
        squares = sum(math.comb(60, k) ** 2 * math.comb(2 * k, k) for k in range(61))
        self.assertEqual(how_many_pairs("xyz", "xyz", 60), squares)
        # 61 is a prime number: each class has as many words as stars, but for the one word of joints alone.
        squares = sum(math.comb(61, stars) // 61 * stars ** 2 for stars in range(1, 61)) + 1
        self.assertEqual(how_many_pairs("ax", "x", 60), squares)

    def plain_necklaces(self, cells, colours):
        """All necklaces of so many cells and colours: what each turning keeps, on an average."""
        return sum(colours ** math.gcd(cells, turning) for turning in range(cells)) // cells

    def test_most_told(self):
        for letters, joints, length, many in [("abcdefgh", "abcdef", 5, 1992), ("a" + ALPHABET[13:], ALPHABET[14:], 3, None),
                                              ("abx", "x", 5, None), ("ax", "x", 12, None)]:
            told = first_words(letters, joints, length)
            self.assertEqual(told, sorted(set(told)))
            self.assertEqual(len(told), how_many_classes(letters, joints, length))
            self.assertTrue(many is None or len(told) == many)
            self.assertEqual(told, [first_word(word, joints) for word in told])
        for letters, joints, length, many in [("abcdefghij", "abcdefghij", 5, 2002), ("abcdef", "abcdef", 9, 2002),
                                              ("ab", "", 11, 2048), (ALPHABET, ALPHABET, 12, math.comb(37, 12))]:
            with self.assertRaises(TooMany) as caught:
                first_words(letters, joints, length)
            self.assertEqual(caught.exception.value, many)

    def test_long_lists(self):
        for letters, joints, length, many, last in [("ab", "", 10, 1024, "b" * 10), ("abc", "a", 7, 798, "c" * 7),
                                                    ("abcdefghijklm", "m", 3, 1963, "mmm"),
                                                    ("abcd", "abcd", 12, 455, "d" * 12)]:
            told = first_words(letters, joints, length)
            self.assertEqual([len(told), told[0], told[-1]], [many, "a" * length, last])
            self.assertTrue(all(first < second for first, second in zip(told, told[1:])))
            self.assertEqual(many, how_many_classes(letters, joints, length))
            self.assertEqual(told, [first_word(word, joints) for word in told])

    def test_rings_with_periods(self):
        # Rings that turnings leave as they are, with joints ahead of, between and behind the bodies.
        for letters, joints in [("abc", "a"), ("abc", "b"), ("abc", "c"), ("abc", "ab"), ("abc", "ac"), ("abc", "bc")]:
            for length in (5, 7):
                firsts = sorted({first_word(word, joints) for word in words_over(letters, length)})
                self.assertEqual(first_words(letters, joints, length), firsts)

    def test_long_rows_of_calls(self):
        # A bound far above the time that it does take, far below what looking at each word alone took.
        begun = time.process_time()
        for _ in range(100):
            first_words("abc", "a", 7)
            first_words("ax", "x", 12)
        self.assertLess(time.process_time() - begun, 2.5)

    def test_just_2000(self):
        self.assertEqual(first_words("xy", "xy", 1999), ["x" * k + "y" * (1999 - k) for k in range(1999, -1, -1)])
        with self.assertRaises(TooMany) as caught:
            first_words("xy", "xy", 2000)
        self.assertEqual(caught.exception.value, 2001)

    def test_refused(self):
        for function in (how_many_classes, classes_by_size, how_many_pairs, first_words):
            check_refusals(self, function, GOOD, WRONG)
        # A wrong length is told ahead of how many words there are.
        with self.assertRaises(InvalidNumber):
            first_words(ALPHABET, ALPHABET, -12)


if __name__ == "__main__":
    unittest.main()
