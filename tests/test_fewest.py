"""Points 24 to 28: lies, and the fewest and cheapest deeds."""

import itertools
import unittest

from plain import NOT_COUNTS, NOT_JOINTS, NOT_PRICES, NOT_WORDS, check_refusals, plain_classes, plain_deed, plain_far
from plain import words_over, words_up_to
from sideswaps.classes import comes
from sideswaps.errors import InvalidJoints, InvalidNumber, InvalidPrices, InvalidWord
from sideswaps.fewest import cheapest, fewest_deeds, lie_value, lies, lots, one_deed_less, price_line

FEES = [("x", 3), ("y", 5)]
JOINTS = ("", "x", "xy", "axy")
PRICES = ([], [("x", 2)], [("x", 1), ("y", 1)], [("x", 3), ("y", 5)], [("a", 7), ("x", 1), ("y", 2)])
GREAT = 10 ** 30 - 1
TWO = {"one": "axby", "other": "aybx"}
TWO_WRONG = {"one": (InvalidWord, NOT_WORDS), "other": (InvalidWord, NOT_WORDS)}


def plain_lies(one, other, joints):
    """All lies, cell by cell as the document tells."""
    if len(one) != len(other):
        return []
    first = ["*" if sign in joints else sign for sign in one] + ["*"]
    second = ["*" if sign in joints else sign for sign in other] + ["*"]
    cells = range(len(first))
    return [r for r in cells if all(second[c] == first[(c + r) % len(first)] for c in cells)]


def plain_wrong(one, other, lie):
    """The tuples of the sign and the wanted one of all wrong cells."""
    first, second = one + "_", other + "_"
    pairs = [(first[(c + lie) % len(first)], second[c]) for c in range(len(first))]
    return [(sign, wanted) for sign, wanted in pairs if sign != wanted]


def plain_lots(one, other, lie):
    """The lots, by going from sign to sign."""
    ties = plain_wrong(one, other, lie)
    found = set()
    for sign in {each for tie in ties for each in tie}:
        reached = {sign}
        for _ in range(27):
            reached |= {each for tie in ties if set(tie) & reached for each in tie}
        found.add("".join(sorted(reached)))
    return sorted(found)


def plain_value(one, other, prices, lie):
    """The value of a lie by the words of the document."""
    costs = dict(prices)
    value = sum(costs[sign] for sign, _ in plain_wrong(one, other, lie) if sign != "_")
    return value + sum(min(costs[sign] for sign in lot) for lot in plain_lots(one, other, lie) if "_" not in lot)


def related_pairs(size, joints):
    """All tuples of two words of at most so many letters of which one comes to the other."""
    found = plain_classes(words_up_to("axy", size), joints)
    return [(one, other) for one, members in found.items() for other in members]


class LiesTest(unittest.TestCase):
    def test_lies(self):
        for joints in JOINTS:
            for one in words_up_to("axy", 3):
                for other in words_up_to("axy", 3):
                    self.assertEqual(lies(one, other, joints), plain_lies(one, other, joints))

    def test_ordinary(self):
        self.assertEqual([lies("axby", "byxa", "xy"), lies("axa", "axa", "x")], [[2], [0, 2]])
        self.assertEqual([lies("axby", "bayx", "xy"), lies("x", "ax", "x"), lies("", "", "")], [[], [], [0]])
        # A lie asks for the star rings alone, not for the joints on them.
        self.assertEqual(lies("ax", "ay", "xy"), [0])
        self.assertEqual(lies("x" * 300, "y" * 300, "xy"), list(range(301)))

    def test_comes_exactly_if(self):
        words = words_over("axy", 4)
        for one in words:
            for other in words:
                even = one.count("x") == other.count("x") and one.count("y") == other.count("y")
                self.assertIs(bool(lies(one, other, "xy")) and even, comes(one, other, "xy"))

    def test_lots_and_values(self):
        for prices in PRICES:
            joints = "".join(letter for letter, _ in prices)
            for one, other in related_pairs(4, joints):
                for lie in lies(one, other, joints):
                    self.assertEqual(lots(one, other, prices, lie), plain_lots(one, other, lie))
                    self.assertEqual(lie_value(one, other, prices, lie), plain_value(one, other, prices, lie))

    def test_lots_ordinary(self):
        self.assertEqual([lots("axby", "byxa", FEES, 2), lots("axby", "aybx", FEES, 0)], [["_x"], ["xy"]])
        self.assertEqual([lie_value("axby", "byxa", FEES, 2), lie_value("axby", "aybx", FEES, 0)], [3, 11])
        self.assertEqual([lots("axa", "axa", FEES, 0), lie_value("axa", "axa", FEES, 0)], [[], 0])
        letters = [(letter, 1) for letter in "uvwxyz"]
        self.assertEqual(lots("uvwxyz", "vuxwzy", letters, 0), ["uv", "wx", "yz"])
        self.assertEqual(lots("uvwxyz", "xywvuz", letters, 0), ["uvxy"])
        self.assertEqual(lots("uuwxuu", "uxuwuu", letters, 0), ["uwx"])

    def test_lies_refused(self):
        check_refusals(self, lies, {**TWO, "joints": "xy"}, {**TWO_WRONG, "joints": (InvalidJoints, NOT_JOINTS)})
        wrong = {**TWO_WRONG, "prices": (InvalidPrices, NOT_PRICES),
                 "lie": (InvalidNumber, NOT_COUNTS + [1, 2, 3, 4, 5, GREAT])}
        for function in (lots, lie_value, one_deed_less):
            check_refusals(self, function, {**TWO, "prices": FEES, "lie": 0}, wrong)
            # There is a lie, but the one does not come to the other.
            for one, other in [("ax", "ay"), ("xx", "xy")]:
                for lie in lies(one, other, "xy"):
                    check_refusals(self, function, {"one": one, "other": other, "prices": FEES, "lie": lie},
                                   {"lie": (InvalidNumber, [lie])})
            check_refusals(self, function, {"one": "ab", "other": "abc", "prices": FEES, "lie": 0},
                           {"lie": (InvalidNumber, [0])})


class CheapestTest(unittest.TestCase):
    def test_against_deeds(self):
        for prices in PRICES:
            joints = "".join(letter for letter, _ in prices)
            for one in words_up_to("axy", 4):
                least = plain_far(one, prices)
                fewest = plain_far(one, [(letter, 1) for letter in joints])
                for other in words_over("axy", len(one)):
                    self.assertEqual(cheapest(one, other, prices), least.get(other), (one, other, prices))
                    self.assertEqual(fewest_deeds(one, other, joints), fewest.get(other), (one, other, joints))

    def test_more_letters(self):
        prices = [("u", 9), ("v", 2), ("w", 4), ("x", 3), ("y", 5)]
        for word in ["uvwxy", "xxyyxy", "uaxvbyx", "xyaxya", "xyxyaxyx", "xaxaxya", "xxxaxxya"]:
            least = plain_far(word, prices)
            fewest = plain_far(word, [(letter, 1) for letter, _ in prices])
            for other in list(least)[::7]:
                self.assertEqual(cheapest(word, other, prices), least[other])
                self.assertEqual(cheapest(other, word, prices), least[other])
                self.assertEqual(fewest_deeds(word, other, "uvwxy"), fewest[other])

    def test_ordinary(self):
        self.assertEqual([cheapest("axby", "aybx", FEES), fewest_deeds("axby", "aybx", "xy")], [11, 3])
        self.assertEqual([cheapest("axby", "axby", FEES), cheapest("ab", "ba", FEES)], [0, None])
        self.assertEqual([cheapest("", "", []), cheapest("a", "", []), fewest_deeds("ax", "ay", "xy")], [0, None, None])
        self.assertEqual(cheapest("axby", "aybx", [("x", GREAT), ("y", GREAT)]), 3 * GREAT)

    def test_triangle(self):
        for one, other, third in itertools.product(plain_far("xaxy", FEES), repeat=3):
            straight = cheapest(one, third, FEES)
            self.assertLessEqual(straight, cheapest(one, other, FEES) + cheapest(other, third, FEES))
            self.assertEqual(straight, cheapest(third, one, FEES))

    def test_longest_words(self):
        one, other = "xy" * 150, "yx" * 150
        self.assertEqual(fewest_deeds(one, other, "xy"), 1)
        self.assertEqual(cheapest(one, other, [("x", GREAT), ("y", 1)]), 1)
        self.assertEqual(fewest_deeds("xay" * 100, "yax" * 100, "xy"), 201)
        self.assertEqual(cheapest("xay" * 100, "yax" * 100, FEES), 100 * 8 + 3)
        self.assertIsNone(cheapest("ab" * 150, "ba" * 150, FEES))

    def test_refused(self):
        check_refusals(self, cheapest, {**TWO, "prices": FEES}, {**TWO_WRONG, "prices": (InvalidPrices, NOT_PRICES)})
        check_refusals(self, fewest_deeds, {**TWO, "joints": "xy"}, {**TWO_WRONG, "joints": (InvalidJoints, NOT_JOINTS)})


class OneDeedLessTest(unittest.TestCase):
    def test_against_values(self):
        for prices in PRICES:
            costs = dict(prices)
            for one, other in related_pairs(4, "".join(costs)):
                for lie in plain_lies(one, other, "".join(costs)):
                    value = plain_value(one, other, prices, lie)
                    less = []
                    for place, letter in enumerate(one):
                        if letter in costs:
                            made = plain_deed(one, place)
                            behind = lie - place - 1 + (len(one) + 1 if lie - place - 1 < 0 else 0)
                            fall = value - plain_value(made, other, prices, behind)
                            self.assertIn(behind, lies(made, other, "".join(costs)))
                            self.assertLessEqual(fall, costs[letter])
                            if fall == costs[letter]:
                                less.append(place)
                    self.assertEqual(one_deed_less(one, other, prices, lie), less)
                    self.assertIs(less == [], value == 0)

    def test_ordinary(self):
        self.assertEqual(one_deed_less("axby", "aybx", FEES, 0), [1])
        self.assertEqual(one_deed_less("axby", "aybx", [("x", 1), ("y", 1)], 0), [1, 3])
        self.assertEqual(one_deed_less("axby", "axby", FEES, 0), [])
        self.assertEqual(one_deed_less("xay" * 100, "yax" * 100, FEES, 0), list(range(0, 300, 3)))


class PriceLineTest(unittest.TestCase):
    def at(self, one, other, prices, letter, price):
        return cheapest(one, other, [(each, price if each == letter else cost) for each, cost in prices])

    def check_line(self, one, other, prices, letter):
        line = price_line(one, other, prices, letter)
        self.assertEqual(line[0][0], 1)
        rises = [rise for _, _, rise in line]
        self.assertEqual(rises, sorted(set(rises), reverse=True))
        for k, (start, price, rise) in enumerate(line):
            self.assertEqual(self.at(one, other, prices, letter, start), price)
            self.assertEqual(self.at(one, other, prices, letter, start + 1), price + rise)
            if k + 1 < len(line):
                end = line[k + 1][0]
                self.assertGreater(end, start)
                self.assertEqual(self.at(one, other, prices, letter, end), price + rise * (end - start))
                self.assertLess(self.at(one, other, prices, letter, end + 1), price + rise * (end + 1 - start))
            else:
                for end in (start + 2, start + 1000, GREAT):
                    self.assertEqual(self.at(one, other, prices, letter, end), price + rise * (end - start))
        return line

    def test_against_cheapest(self):
        for prices in ([("x", 2), ("y", 3)], [("a", 4), ("x", 6), ("y", 1)]):
            for one, other in related_pairs(4, "".join(letter for letter, _ in prices)):
                for letter, _ in prices:
                    self.check_line(one, other, prices, letter)

    def test_bends(self):
        ends = set()
        prices = [("w", 9), ("x", 4), ("y", 2), ("z", 7)]
        for order in itertools.permutations("wxyzx"):
            for letter in "wxyz":
                ends.add(len(self.check_line("wxyzx", "".join(order), prices, letter)))
        self.assertLessEqual({1, 2}, ends)

    def test_ordinary(self):
        self.assertEqual(price_line("axby", "aybx", FEES, "x"), [(1, 7, 2), (5, 15, 1)])
        self.assertEqual(price_line("axby", "byxa", FEES, "y"), [(1, 3, 0)])
        fees = [("q", 1), ("w", 5), ("x", 1), ("y", 1), ("z", 1)]
        self.assertEqual(self.check_line("axxzwayyq", "ayyzwaxxq", fees, "x"), [(1, 5, 2), (2, 7, 1), (3, 8, 0)])
        self.assertEqual(price_line("axb", "axb", FEES, "x"), [(1, 0, 0)])
        self.assertEqual(price_line("", "", FEES, "y"), [(1, 0, 0)])
        self.assertIsNone(price_line("ab", "ba", FEES, "x"))
        self.assertIsNone(price_line("ax", "ay", FEES, "x"))

    def test_own_price_does_not_matter(self):
        for price in (1, 5, GREAT):
            self.assertEqual(price_line("axby", "aybx", [("x", price), ("y", 5)], "x"), [(1, 7, 2), (5, 15, 1)])

    def test_great_prices(self):
        self.assertEqual(self.check_line("axby", "aybx", [("x", 1), ("y", GREAT)], "x"),
                         [(1, GREAT + 2, 2), (GREAT, 3 * GREAT, 1)])

    def test_longest_words(self):
        self.check_line("xay" * 20, "yax" * 20, FEES, "x")
        self.check_line("xyzw" * 15, "zwyx" * 15, [("w", 5), ("x", 1), ("y", 2), ("z", 70)], "w")

    def test_refused(self):
        wrong = {**TWO_WRONG, "prices": (InvalidPrices, NOT_PRICES),
                 "letter": (InvalidJoints, [None, True, 1, "", "a", "z", "xy", "X", ["x"], ("x", 3)])}
        check_refusals(self, price_line, {**TWO, "prices": FEES, "letter": "x"}, wrong)
        # The letter is refused also where no road leads.
        check_refusals(self, price_line, {"one": "ab", "other": "ba", "prices": FEES, "letter": "x"}, wrong)
        check_refusals(self, price_line, {**TWO, "prices": [], "letter": "x"}, {"letter": (InvalidJoints, ["x", ""])})


if __name__ == "__main__":
    unittest.main()
