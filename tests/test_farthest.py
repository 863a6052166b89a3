"""Points 31 and 32: how far words are, and the farthest ones."""

import itertools
import math
import unittest

from plain import NOT_COUNTS, NOT_JOINTS, NOT_PRICES, NOT_WORDS, check_refusals, plain_class, plain_far, words_up_to
from sideswaps.classes import comes
from sideswaps.errors import InvalidJoints, InvalidNumber, InvalidPrices, InvalidWord, TooMany
from sideswaps.farthest import dearest, farthest_word, spread, spread_of
from sideswaps.fewest import cheapest
from sideswaps.rings import ring_turns

FEES = [("x", 3), ("y", 5)]
GREAT = 10 ** 30 - 1
PRICES = ([], [("x", 2)], [("x", 1), ("y", 1)], [("x", 3), ("y", 5)], [("a", 7), ("x", 1), ("y", 2)])


def plain_spread(word, joints):
    """The spread, deed after deed tried."""
    least = list(plain_far(word, [(letter, 1) for letter in joints]).values())
    return [least.count(many) for many in range(max(least) + 1)]


class SpreadTest(unittest.TestCase):
    def test_against_deeds(self):
        for joints in ("", "x", "xy", "axy"):
            for word in words_up_to("axy", 4):
                self.assertEqual(spread(word, joints), plain_spread(word, joints))
        for word in ("xayxbz", "xxyyxxy", "xaxaxax", "wxyz", "axbyczd"):
            self.assertEqual(spread(word, "wxyz"), plain_spread(word, "wxyz"))

    def test_ordinary(self):
        self.assertEqual([spread("axby", "xy"), spread("axa", "x"), spread("", "x")], [[1, 2, 2, 1], [1], [1]])
        self.assertEqual([spread("xxxyy", "xy"), spread("xyxyx", "xy"), spread("axbxc", "x")], [[1, 4, 5], [1, 3, 6], [1, 2]])

    def test_rigid_words_of_one_class_alike(self):
        for word in ("axybx", "axyxy", "aaxbyxb", "axyzb"):
            self.assertEqual(ring_turns(word, "xyz"), 1)
            self.assertEqual({tuple(spread(each, "xyz")) for each in plain_class(word, "xyz")}, {tuple(spread(word, "xyz"))})
        spreads = {tuple(spread(each, "xy")) for each in plain_class("xxxyy", "xy")}
        self.assertGreater(len(spreads), 1)

    def test_about_3000(self):
        self.assertEqual(sum(spread("x" * 53 + "yz", "xyz")), 54 * 55)
        self.assertEqual(sum(spread("a" * 150 + "x" * 53 + "y", "xy")), 55 * 54)
        # Just 3,000 words, one for each star, are those of a longer word alone.
        self.assertEqual(spread("xa" * 2999 + "b", "x"), [1, 2999])
        for word, joints, many in [("x" * 54 + "yz", "xyz", 55 * 56), ("xa" * 3000 + "b", "x", 3001),
                                   ("axyzwvu", "uvwxyz", 5040), ("xyz" * 100, "xyz", None)]:
            with self.assertRaises(TooMany) as caught:
                spread(word, joints)
            self.assertEqual(many or math.factorial(300) // math.factorial(100) ** 3, caught.exception.value)

    def test_refused(self):
        check_refusals(self, spread, {"word": "axby", "joints": "xy"},
                       {"word": (InvalidWord, NOT_WORDS), "joints": (InvalidJoints, NOT_JOINTS)})


class SpreadOfTest(unittest.TestCase):
    def test_against_spread(self):
        word = "a"
        for count in range(6):
            self.assertEqual(spread_of(count), spread(word, "uvwxyz"))
            self.assertEqual(spread_of(count), plain_spread(word, "uvwxyz"))
            word += "zyxwvu"[count]
        self.assertEqual([spread_of(0), spread_of(1), spread_of(2)], [[1], [1, 1], [1, 2, 2, 1]])
        self.assertEqual(spread_of(4), [1, 4, 12, 30, 44, 26, 3])

    def plain_sum(self, count):
        """The sum of the document, term by term, the rounds counted in the orders themselves."""
        told = {}
        for many in range(count + 1):
            for order in itertools.permutations(range(many)):
                if all(order[k] != k for k in range(many)):
                    left, rounds = set(range(many)), 0
                    while left:
                        rounds += 1
                        here = min(left)
                        while here in left:
                            left.remove(here)
                            here = order[here]
                    for led in range(count - many + 1):
                        ways = math.perm(count, led) * math.comb(count - led, many)
                        told[led + many + rounds] = told.get(led + many + rounds, 0) + ways
        return [told[many] for many in range(max(told) + 1)]

    def test_against_the_sum(self):
        for count in range(8):
            self.assertEqual(spread_of(count), self.plain_sum(count))

    def test_all_counts(self):
        for count in range(61):
            told = spread_of(count)
            self.assertEqual(sum(told), math.factorial(count + 1))
            self.assertEqual(len(told), count + count // 2 + 1)
            self.assertTrue(all(many > 0 for many in told))

    def test_refused(self):
        check_refusals(self, spread_of, {"count": 3}, {"count": (InvalidNumber, NOT_COUNTS + [61, 62, GREAT])})


class DearestTest(unittest.TestCase):
    def check_word(self, word, prices):
        joints = "".join(letter for letter, _ in prices)
        far, found = dearest(word, prices), farthest_word(word, prices)
        if ring_turns(word, joints) > 1:
            self.assertEqual([far, found], [None, None])
            return None
        self.assertTrue(comes(word, found, joints))
        self.assertEqual(cheapest(word, found, prices), far, (word, prices, found))
        return far

    def test_against_deeds(self):
        for prices in PRICES:
            for word in words_up_to("axy", 5):
                far = self.check_word(word, prices)
                if far is not None:
                    self.assertEqual(far, max(plain_far(word, prices).values()), (word, prices))

    def test_more_letters(self):
        lists = ([("x", 1), ("y", 1), ("z", 1)], [("x", 9), ("y", 1), ("z", 2)], [("x", 1), ("y", 6), ("z", 6)],
                 [("w", 5), ("x", 2), ("y", 9), ("z", 2)])
        for prices in lists:
            for word in ("axxxyz", "axxyyz", "axxxxy", "xxaayy", "wxyza", "axxxyyy", "wwxayz", "axaaxyz", "awwxxyb"):
                self.assertEqual(self.check_word(word, prices), max(plain_far(word, prices).values()), (word, prices))

    def test_ordinary(self):
        self.assertEqual([dearest("axby", FEES), farthest_word("axby", FEES)], [11, "aybx"])
        self.assertEqual([dearest("axa", [("x", 1)]), farthest_word("axa", [("x", 1)])], [None, None])
        self.assertEqual(dearest("axbxcydye", [("x", 1), ("y", 1)]), 5)
        self.assertEqual([dearest("axbxc", [("x", 2)]), dearest("ab", FEES), dearest("", FEES)], [2, 0, 0])
        self.assertEqual([farthest_word("ab", FEES), farthest_word("", FEES)], ["ab", ""])
        self.assertEqual(dearest("axby", [("x", GREAT), ("y", GREAT)]), 3 * GREAT)

    def test_unlike_joints(self):
        for count in range(7):
            word = "a" + "uvwxyz"[:count]
            self.assertEqual(dearest(word, [(letter, 1) for letter in "uvwxyz"]), count + count // 2)

    def test_six_kinds(self):
        for prices in ([(letter, 1) for letter in "uvwxyz"], [(letter, 1 + k * k) for k, letter in enumerate("uvwxyz")],
                       [(letter, GREAT - k) for k, letter in enumerate("uvwxyz")]):
            for word in ("a" + "uvwxyz" * 49, "auvwxyz" + "x" * 293, "uvwwxxxyyyyzzzzza", "auvvwwwxxxxyyyyyzzzzzz"):
                self.check_word(word, prices)
        # One kind stands there so often that it is wrong only where all others stand.
        self.assertEqual(dearest("auvwxyz" + "x" * 293, [(letter, 1) for letter in "uvwxyz"]), 5 + 5 + 1)

    def test_refused(self):
        for function in (dearest, farthest_word):
            check_refusals(self, function, {"word": "axby", "prices": FEES},
                           {"word": (InvalidWord, NOT_WORDS), "prices": (InvalidPrices, NOT_PRICES)})


if __name__ == "__main__":
    unittest.main()
