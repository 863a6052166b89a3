"""Points 72 to 75: cheapest roads of far words, and families of them."""

import random
import time
import unittest

from plain import NOT_COUNTS, NOT_JOINTS, NOT_LISTS, NOT_PRICES, check_refusals, plain_far as plain_prices_far
from sideswaps.classes import comes
from sideswaps.errors import InvalidFar, InvalidJoints, InvalidNumber, InvalidPrices, Unlike
from sideswaps.farroads import family_parting, family_price, family_word, far_cheapest, far_lie
from sideswaps.farwords import far_length, far_parting, far_word, plain_far
from sideswaps.fewest import lie_value, lies, lots
from test_farwords import BACK, FAR, GREAT, MANY, NOT_FAR, drawn_far

PRICES = [("a", 1), ("b", 1)]
NOT_FAMILIES = NOT_LISTS + [
    [None], ["a"], [("a",)], [("a", 1)], [("a", 1, 1, 1)], [("a", -1, 0)], [("a", 0, -1)], [("a", True, 0)],
    [("a", 0, False)], [("a", "1", 0)], [["a", 1, 1]], [("A", 1, 1)], [("ab", 1, 1)], [("", 1, 1)], [("_", 1, 1)],
    [("a", 1, 1), None],
]
UP, DOWN = [("a", 0, 1), ("b", 0, 1), ("c", 0, 1)], [("c", 0, 1), ("b", 0, 1), ("a", 0, 1)]
# Families whose price grows evenly late, with prices: from 241, 466 and 458 on.
LATE = [
    ([("z", 0, 4), ("x", 9, 8), ("z", 9, 2), ("y", 9, 1)], [("z", 9, 2), ("x", 9, 8), ("z", 0, 4), ("y", 9, 1)],
     [("w", 6), ("x", 1), ("y", 9), ("z", 8)], 241),
    ([("z", 2, 5), ("y", 0, 1), ("x", 9, 1), ("y", 9, 0)], [("y", 9, 0), ("x", 9, 1), ("y", 0, 1), ("z", 2, 5)],
     [("w", 9), ("x", 8), ("y", 9), ("z", 8)], 466),
    ([("z", 6, 4), ("y", 0, 1), ("x", 9, 1), ("y", 9, 0)], [("y", 0, 1), ("z", 6, 4), ("y", 9, 0), ("x", 9, 1)],
     [("w", 7), ("x", 8), ("y", 9), ("z", 8)], 458),
]


def plain_lie(one, other, prices, number):
    """The value, the wrong cells and the lots of a lie, told by words written out."""
    joints = "".join(letter for letter, _ in prices)
    if not comes(one, other, joints) or number not in lies(one, other, joints):
        return None
    ring, counts = (one + "_")[number:] + (one + "_")[:number], {}
    for sign, wanted in zip(ring, other + "_"):
        if sign != wanted and sign != "_":
            counts[sign] = counts.get(sign, 0) + 1
    return (lie_value(one, other, prices, number), sorted(counts.items()), lots(one, other, prices, number))


def drawn_two(draw, letters, most, joints):
    """Two far words, of which the one mostly comes to the other one."""
    one = drawn_far(draw, letters, most)
    if draw.random() < 0.3:
        return one, [one, one[::-1], one[1:] + one[:1]][draw.randrange(3)]
    signs = list(far_word(one) + "_")
    stars = [spot for spot, sign in enumerate(signs) if sign in joints + "_"]
    for spot, sign in zip(stars, draw.sample([signs[spot] for spot in stars], len(stars))):
        signs[spot] = sign
    hole = signs.index("_")
    return one, [(letter, 1) for letter in signs[hole + 1:] + signs[:hole]]


def drawn_families(draw):
    """Two families with the same letters, and prices."""
    letters, most = draw.choice(["xy", "xyz", "axy", "wxyz"]), draw.choice([2, 3, 9])
    one = [(draw.choice(letters), draw.randrange(most + 1), draw.randrange(most + 1)) for _ in range(draw.randrange(5))]
    other = draw.sample(one, len(one))
    return one, other, [(letter, draw.randrange(1, draw.choice([2, 4, 10]))) for letter in "xyz"]


class LiesTest(unittest.TestCase):
    def test_against_words(self):
        draw, found = random.Random(1), 0
        for _ in range(500):
            joints = draw.choice(["x", "xy", "xyz"])
            prices = [(letter, draw.randrange(1, 6)) for letter in joints]
            one, other = drawn_two(draw, draw.choice(["xy", "axy", "abxy", "xyz"]), 4, joints)
            first, second = far_word(one), far_word(other)
            told = [far_lie(one, other, prices, number) for number in range(len(second) + 1)]
            self.assertEqual(told, [plain_lie(first, second, prices, number) for number in range(len(second) + 1)])
            values = [(lie[0], number) for number, lie in enumerate(told) if lie is not None]
            self.assertEqual(far_cheapest(one, other, prices), min(values, default=None), (one, other, prices))
            found += len(values) > 1
        self.assertGreater(found, 100)

    def test_against_deeds(self):
        draw = random.Random(2)
        for _ in range(60):
            one, other = drawn_two(draw, "axy", 3, "xy")
            prices = [("x", draw.randrange(1, 5)), ("y", draw.randrange(1, 5))]
            if far_length(one) < 8:
                told, least = far_cheapest(one, other, prices), plain_prices_far(far_word(one), prices)
                self.assertEqual(None if told is None else told[0], least.get(far_word(other)))

    def test_longer_runs(self):
        # Of the lies that are tried in vain, none is less, and none as small is ahead.
        draw = random.Random(3)
        for _ in range(60):
            one = [(draw.choice("xyz"), draw.randrange(1, 15)) for _ in range(6)]
            other, prices = draw.sample(one, 6), [(letter, draw.randrange(1, 9)) for letter in "xyz"]
            values = [(far_lie(one, other, prices, number)[0], number) for number in range(far_length(one) + 1)]
            self.assertEqual(far_cheapest(one, other, prices), min(values))

    def test_ordinary(self):
        self.assertEqual(far_cheapest(FAR, BACK, PRICES), (1, MANY))
        self.assertEqual(far_lie(FAR, BACK, PRICES, 0), (2 * MANY + 1, [("a", MANY), ("b", MANY)], ["ab"]))
        self.assertEqual(far_lie(FAR, BACK, PRICES, MANY + 1), (1, [("b", 1)], ["_b"]))
        self.assertEqual([far_cheapest(FAR, FAR, PRICES), far_cheapest([], [], []), far_cheapest([("a", 0)], [], [])], [(0, 0)] * 3)
        self.assertEqual([far_lie([], [], [], 0), far_lie(FAR, FAR, PRICES, 0)], [(0, [], [])] * 2)
        told = [far_cheapest(FAR, BACK, []), far_cheapest(FAR, [("a", MANY)], PRICES), far_lie(FAR, [("a", MANY)], PRICES, 7),
                far_cheapest([("a", 1), ("x", 1)], [("a", 1), ("y", 1)], [("x", 1), ("y", 1)])]
        self.assertEqual(told, [None] * 4)
        # A lie that does not fit, and words of which the one does not come to the other.
        self.assertIsNone(far_lie([("a", 2), ("x", 2)], [("a", 2), ("x", 2)], [("x", 1)], 1))
        self.assertIsNone(far_lie([("a", 1), ("x", 1)], [("a", 1), ("y", 1)], [("x", 1), ("y", 1)], 0))

    def test_12_tuples_and_numbers_of_30_figures(self):
        letters = "xyzxyzxyzwxw"
        far = [(letter, GREAT - k * k) for k, letter in enumerate(letters)]
        prices = [("w", 999999), ("x", 3), ("y", 500000), ("z", 1)]
        value, number = far_cheapest(far, far[::-1], prices)
        self.assertEqual(far_lie(far, far[::-1], prices, number)[0], value)
        self.assertEqual(far_cheapest(far, far, prices), (0, 0))
        for more in (-2, -1, 1, 2, 12345):
            self.assertGreaterEqual(far_lie(far, far[::-1], prices, number + more)[0], value)
        self.assertLess(value, far_lie(far, far[::-1], prices, 0)[0])
        # With bodies, only lies fit that bring a run of them on one as long.
        far = [(letter, MANY + k % 3) for k, letter in enumerate("axayaxayaxay")]
        turned = far[6:] + far[:6]
        self.assertEqual(far_cheapest(far, turned, [("x", 1), ("y", 1)]), (6 * MANY + 7, 0))
        back = far[:1] + [("y", MANY + 1)] + far[2:3] + [("x", MANY)] + far[4:]
        self.assertIsNone(far_cheapest(far, back, [("x", 2), ("y", 1)]))
        here, there = [("a", MANY), ("x", 5), ("y", MANY)], [("a", MANY), ("y", MANY), ("x", 5)]
        self.assertEqual(far_cheapest(here, there, [("x", 2), ("y", 1)]), (16, 0))
        self.assertEqual(far_lie(here, there, [("x", 2), ("y", 1)], 0), (16, [("x", 5), ("y", 5)], ["xy"]))

    def test_one_letter_in_two_tuples_and_the_number_0(self):
        one, other = [("x", 2), ("y", 0), ("x", 1), ("y", 2)], [("y", 1), ("x", 0), ("y", 1), ("x", 3)]
        self.assertEqual(far_cheapest(one, other, [("x", 1), ("y", 1)]), far_cheapest(plain_far(one), plain_far(other), [("x", 1), ("y", 1)]))
        told = [far_lie(one, other, [("x", 4), ("y", 1)], number) for number in range(6)]
        self.assertEqual(told, [plain_lie("xxxyy", "yyxxx", [("x", 4), ("y", 1)], number) for number in range(6)])

    def test_refused(self):
        far, prices = (InvalidFar, NOT_FAR), (InvalidPrices, NOT_PRICES)
        good = {"one": [("a", 2), ("b", 1)], "other": [("b", 1), ("a", 2)], "prices": PRICES}
        check_refusals(self, far_cheapest, good, {"one": far, "other": far, "prices": prices})
        numbers = (InvalidNumber, NOT_COUNTS + [4, 10 ** 30])
        check_refusals(self, far_lie, {**good, "number": 3}, {"one": far, "other": far, "prices": prices, "number": numbers})
        # The numbers are those of the other word, also where no lie fits.
        check_refusals(self, far_lie, {**good, "other": [("c", 7)], "number": 7}, {"number": (InvalidNumber, [8, None])})


class FamiliesTest(unittest.TestCase):
    def prices_for(self, one, other, prices, numbers):
        return [far_cheapest(family_word(one, number), family_word(other, number), prices)[0] for number in numbers]

    def test_family_word(self):
        self.assertEqual([family_word(UP, 2), family_word(UP, 0), family_word([], 5)], [[("a", 2), ("b", 2), ("c", 2)], [], []])
        self.assertEqual(family_word([("a", 9, 9), ("b", 0, 0), ("a", 1, 0)], GREAT), [("a", 9 * GREAT + 10)])
        self.assertEqual(family_word([("x", 0, 1), ("y", 3, 0)], 0), [("y", 3)])

    def test_parting_against_numbers(self):
        draw, numbers = random.Random(4), set()
        for _ in range(1200):
            one, other, _ = drawn_families(draw)
            if draw.random() < 0.5:
                other = [(letter, start, draw.choice([step, step, draw.randrange(3)])) for letter, start, step in other]
            for joints in ("", "xy", "xyz"):
                plain = None
                for number in range(30):
                    parting = far_parting(family_word(one, number), family_word(other, number), joints)
                    if parting is not None:
                        plain = (number, parting)
                        break
                self.assertEqual(family_parting(one, other, joints), plain, (one, other, joints))
                numbers.add(plain and plain[0])
        self.assertLessEqual({None, 0, 1, 2}, numbers)

    def test_parted_late(self):
        # Alike, turned in one way or another, for 0, 1, 2 and 3, but for no greater number.
        cases = [
            ([("a", 0, 1), ("x", 1, 0), ("a", 3, 0)], [("a", 3, 0), ("x", 1, 0), ("a", 0, 1)], "x"),
            ([("a", 2, 1), ("x", 0, 1)], [("a", 4, 0), ("x", 0, 1)], "x"),
            ([("a", 0, 2), ("x", 1, 0), ("b", 1, 0)], [("a", 4, 1), ("x", 1, 0), ("b", 1, 0)], "x"),
        ]
        for one, other, joints in cases:
            plain = [far_parting(family_word(one, number), family_word(other, number), joints) for number in range(40)]
            parted = [number for number, parting in enumerate(plain) if parting is not None]
            self.assertEqual(family_parting(one, other, joints), (parted[0], plain[parted[0]]) if parted else None)

    def test_price_against_numbers(self):
        draw, found = random.Random(5), {}
        while len(found) < 150:
            one, other, prices = drawn_families(draw)
            try:
                since, value, step = family_price(one, other, prices)
            except Unlike as error:
                self.assertEqual(error.value, family_parting(one, other, "xyz"))
                continue
            plain = self.prices_for(one, other, prices, range(40))
            self.assertEqual(plain[since:], [value + step * more for more in range(40 - since)], (one, other, prices))
            if since > 0:
                self.assertNotEqual(plain[since - 1], value - step)
            far = [1000, 50000, 50001, 10 ** 9]
            self.assertEqual(self.prices_for(one, other, prices, far), [value + step * (number - since) for number in far])
            found[len(found)] = since
        self.assertLessEqual({0, 1, 2}, set(found.values()))

    def test_price_that_grows_evenly_late(self):
        for one, other, prices, late in LATE:
            since, value, step = family_price(one, other, prices)
            self.assertEqual(since, late)
            numbers = range(since, since + 60)
            self.assertEqual(self.prices_for(one, other, prices, numbers), [value + step * (number - since) for number in numbers])
            self.assertNotEqual(self.prices_for(one, other, prices, [since - 1]), [value - step])
            self.assertEqual(self.prices_for(one, other, prices, [50000]), [value + step * (50000 - since)])
            # From 200 on it never grows by more than ahead.
            plain = self.prices_for(one, other, prices, range(200, 500))
            rises = [second - first for first, second in zip(plain, plain[1:])]
            self.assertEqual(rises, sorted(rises, reverse=True))

    def test_prices_of_lies_beside_those_that_bring_ends_on_ends(self):
        one = [("y", 3, 8), ("x", 0, 8), ("x", 2, 1), ("z", 2, 0)]
        other = [("x", 0, 8), ("z", 2, 0), ("x", 2, 1), ("y", 3, 8)]
        self.assertEqual(family_price(one, other, [("w", 4), ("x", 7), ("y", 1), ("z", 2)]), (1, 20, 0))
        one = [("x", 2, 0), ("y", 1, 3), ("z", 3, 2), ("z", 1, 0)]
        other = [("z", 3, 2), ("y", 1, 3), ("x", 2, 0), ("z", 1, 0)]
        self.assertEqual(family_price(one, other, [("w", 1), ("x", 3), ("y", 3), ("z", 5)]), (1, 19, 0))
        one = [("x", 2), ("w", 19), ("y", 3), ("w", 0), ("y", 2), ("x", 9)]
        other = [("w", 7), ("y", 2), ("w", 0), ("y", 3), ("w", 12), ("x", 2), ("x", 9)]
        prices = [("w", 5), ("x", 1), ("y", 1), ("z", 5)]
        values = [(far_lie(one, other, prices, number)[0], number) for number in range(far_length(one) + 1)]
        self.assertEqual([min(values), far_cheapest(one, other, prices)], [(32, 1), (32, 1)])

    def test_ordinary(self):
        told = [family_parting(UP, DOWN, "ac"), family_parting(UP, DOWN, "abc"),
                family_price(UP, DOWN, [("a", 1), ("b", 1), ("c", 1)])]
        self.assertEqual(told, [None, None, (1, 1, 2)])
        self.assertEqual([family_price([], [], []), family_price(UP, UP, [])], [(0, 0, 0), (0, 0, 0)])
        self.assertEqual([family_parting([], [], "x"), family_parting(UP, DOWN, "")],
                         [None, (1, far_parting(family_word(UP, 1), family_word(DOWN, 1), ""))])
        self.assertEqual(family_price([("x", 9, 0), ("y", 9, 0)], [("y", 9, 0), ("x", 9, 0)], [("x", 1), ("y", 9)]), (0, 1, 0))

    def test_four_tuples_and_numbers_of_9_within_time(self):
        draw, begun, many = random.Random(6), time.perf_counter(), 0
        while many < 200:
            one = [(draw.choice("wxyz"), draw.choice([0, 8, 9]), draw.choice([1, 8, 9])) for _ in range(4)]
            other = draw.sample(one, 4)
            since, value, step = family_price(one, other, [(letter, draw.randrange(1, 10)) for letter in "wxyz"])
            self.assertTrue(since >= 0 and value >= 0 and step >= 0)
            many += 1
        self.assertLess(time.perf_counter() - begun, 20)

    def test_refused(self):
        families, prices = (InvalidFar, NOT_FAMILIES), (InvalidPrices, NOT_PRICES)
        check_refusals(self, family_word, {"family": UP, "n": 2}, {"family": families, "n": (InvalidNumber, NOT_COUNTS)})
        check_refusals(self, family_parting, {"one": UP, "other": DOWN, "joints": "ac"},
                       {"one": families, "other": families, "joints": (InvalidJoints, NOT_JOINTS)})
        good = {"one": UP, "other": DOWN, "prices": [("a", 1), ("b", 1), ("c", 1)]}
        check_refusals(self, family_price, good, {"one": families, "other": families, "prices": prices})
        # Behind the other errors those are refused that do not come to one another.
        apart = {**good, "other": [("c", 0, 1)]}
        check_refusals(self, family_price, apart, {"one": families, "prices": prices})
        with self.assertRaises(Unlike) as caught:
            family_price(**apart)
        self.assertEqual(caught.exception.value, family_parting(UP, [("c", 0, 1)], "abc"))


if __name__ == "__main__":
    unittest.main()
