"""Points 38 and 39: train roads that cost least."""

import itertools
import random
import unittest

from plain import NOT_COUNTS, NOT_LISTS, NOT_PRICES, NOT_TRAINS, check_refusals, plain_far, plain_first, plain_train_deed
from plain import plain_train_deeds, plain_train_far, trains_up_to
from sideswaps.errors import InvalidNumber, InvalidPrices, InvalidRoad, InvalidTrain, Unlike
from sideswaps.fewest import cheapest, lie_value, lies, lots
from sideswaps.trainroads import first_train_deeds, is_cheapest, lie_lots, lie_values, train_distance, train_price, train_road
from sideswaps.trains import are_alike, is_train_road, train_done, train_parting, train_ring, train_text

PRICES = ([], [("x", 2)], [("x", 3), ("y", 5)], [("a", 1), ("x", 1), ("y", 1)])
FEES = [("a", 1), ("b", 5)]
GREAT = 10 ** 30 - 1
TWO = {"one": ["ab", ""], "other": ["ba", ""], "prices": FEES}
TWO_WRONG = {
    "one": (InvalidTrain, NOT_TRAINS), "other": (InvalidTrain, NOT_TRAINS), "prices": (InvalidPrices, NOT_PRICES),
}


def letters_of(prices):
    return "".join(letter for letter, _ in prices)


def plain_lie(one, other, prices, number):
    """The value and the lots of a lie, cell by cell as the document tells; None if it does not fit."""
    costs = dict(prices)
    first, second = train_text(one), train_text(other)
    ties = []
    for cell, wanted in enumerate(second):
        sign = first[(cell + number) % len(first)]
        if not (sign == wanted or (sign in costs or sign == "_") and (wanted in costs or wanted == "_")):
            return None
        if sign != wanted:
            ties.append((sign, wanted))
    found = set()
    for sign in {each for tie in ties for each in tie}:
        reached = {sign}
        for _ in range(27):
            reached |= {each for tie in ties if set(tie) & reached for each in tie}
        found.add("".join(sorted(reached)))
    value = sum(costs[sign] for sign, _ in ties if sign != "_")
    return value + sum(min(costs[sign] for sign in lot) for lot in found if "_" not in lot), sorted(found)


def mixed_trains(text, words, seed):
    """Two trains of so many words, the one with the letters of a text, the other one with them in another order."""
    letters, draw = list(text), random.Random(seed)
    found = []
    for _ in range(2):
        cuts = [0] + sorted(draw.choices(range(len(text) + 1), k=words - 1)) + [len(text)]
        found.append(["".join(letters[start:end]) for start, end in zip(cuts, cuts[1:])])
        draw.shuffle(letters)
    return found


def related(words, size, prices):
    """Tuples of two trains of so many words of which the one comes to the other."""
    classes = {}
    for train in trains_up_to("axy", words, size):
        key = train_ring(train, letters_of(prices)), *["".join(train).count(letter) for letter, _ in prices]
        classes.setdefault(key, []).append(train)
    return [(one, other) for trains in classes.values() for one in trains for other in trains]


class LieTest(unittest.TestCase):
    def test_against_cells(self):
        for prices in PRICES:
            for words in (1, 2, 3):
                for one, other in related(words, 3, prices)[::3 * words]:
                    told = [plain_lie(one, other, prices, number) for number in range(len(train_text(other)))]
                    self.assertEqual(lie_values(one, other, prices), [each and each[0] for each in told])
                    for number, each in enumerate(told):
                        self.assertEqual(lie_lots(one, other, prices, number), each and each[1])

    def test_one_word(self):
        for one, other in [("axby", "aybx"), ("axby", "byxa"), ("axa", "axa"), ("xyxy", "yyxx")]:
            prices = [("x", 3), ("y", 5)]
            values = lie_values([one], [other], prices)
            self.assertEqual([r for r, value in enumerate(values) if value is not None], lies(one, other, "xy"))
            for lie in lies(one, other, "xy"):
                self.assertEqual(values[lie], lie_value(one, other, prices, lie))
                self.assertEqual(lie_lots([one], [other], prices, lie), lots(one, other, prices, lie))

    def test_ordinary(self):
        self.assertEqual(lie_values(["ab", ""], ["ba", ""], FEES), [7, 1, 6, 5])
        self.assertEqual([lie_lots(["ab", ""], ["ba", ""], FEES, 0), lie_values([""], [""], FEES)], [["ab"], [0]])
        self.assertEqual([lie_values(["ac"], ["ac"], FEES), lie_lots(["ac"], ["ac"], FEES, 1)], [[0, None, None], None])

    def test_refused(self):
        check_refusals(self, lie_values, TWO, TWO_WRONG)
        wrong = {**TWO_WRONG, "number": (InvalidNumber, NOT_COUNTS + [4, 5, GREAT])}
        check_refusals(self, lie_lots, {**TWO, "number": 3}, wrong)
        # The number is asked for the cells of the other train, and ahead of what the two are to each other.
        check_refusals(self, lie_lots, {"one": ["abc"], "other": ["a"], "prices": FEES, "number": 0},
                       {"number": (InvalidNumber, [2, 3, 4])})


class DistanceTest(unittest.TestCase):
    def test_against_deeds(self):
        for prices in PRICES:
            for words in (1, 2, 3):
                trains = trains_up_to("axy", words, 3)
                for one in trains[::2 * words]:
                    least = plain_train_far(one, prices)
                    for other in trains:
                        self.assertEqual(train_distance(one, other, prices), least.get(plain_first(other)))

    def test_roads_against_deeds(self):
        for prices in PRICES:
            for words in (1, 2, 3):
                for other in trains_up_to("axy", words, 3)[::3 * words - 2]:
                    least = plain_train_far(other, prices)
                    for one in sorted(least)[::words]:
                        self.check_roads(list(one)[1:] + list(one)[:1], other, prices, least)

    def check_roads(self, one, other, prices, least):
        joints, costs = letters_of(prices), dict(prices)
        distance = least[plain_first(one)]
        self.assertEqual(train_distance(one, other, prices), distance)
        self.assertEqual(train_distance(other, one, prices), distance)
        road = train_road(one, other, prices)
        self.assertTrue(is_train_road(one, joints, road))
        self.assertTrue(are_alike(train_done(one, joints, road), other))
        self.assertEqual(train_price(one, prices, road), distance)
        self.assertIs(is_cheapest(one, other, prices, road), True)
        begun = []
        for deed in plain_train_deeds(one, joints):
            made = plain_train_deed(one, deed)
            if least[plain_first(made)] == distance - costs[one[deed[0]][deed[1]]]:
                begun.append(deed)
        self.assertEqual(first_train_deeds(one, other, prices), begun)
        self.assertIs(begun == [], are_alike(one, other))

    def test_more_letters(self):
        lists = ([("w", 1), ("x", 1), ("y", 1), ("z", 1)], [("w", 3), ("x", 2), ("y", 2), ("z", 9)])
        for seed, text in enumerate(["wxyz", "xxyyz", "axyza", "xxxyy", "wwxxy", "xaxay", "wxxyz"]):
            for words in (2, 3):
                for prices in lists:
                    one, other = mixed_trains(text, words, seed + 10 * words)
                    if train_parting(one, other, "wxyz") is None:
                        self.check_roads(one, other, prices, plain_train_far(other, prices))

    def test_one_word(self):
        prices = [("x", 3), ("y", 5)]
        for one in ("axby", "xyxy", "xay"):
            for other in plain_far(one, prices):
                self.assertEqual(train_distance([one], [other], prices), cheapest(one, other, prices))

    def test_is_cheapest(self):
        prices = [("x", 1), ("y", 2)]
        numbers = [(car, place, gap) for car in range(2) for place in range(3) for gap in range(2)]
        for one, other in [(["xy", ""], ["yx", ""]), (["xa", "y"], ["ya", "x"]), (["xay", ""], ["", "yax"])]:
            least = plain_train_far(one, prices)[plain_first(other)]
            for many in range(3):
                for road in itertools.product(numbers, repeat=many):
                    price, made = 0, one
                    for deed in road:
                        if made is not None and deed in plain_train_deeds(made, "xy"):
                            price += dict(prices)[made[deed[0]][deed[1]]]
                            made = plain_train_deed(made, deed)
                        else:
                            made = None
                    right = made is not None and plain_first(made) == plain_first(other) and price == least
                    self.assertIs(is_cheapest(one, other, prices, list(road)), right)
        for value in NOT_LISTS + [[None], [(0, 0)], [(0, True, 0)], [[0, 0, 0]], [0]]:
            self.assertIs(is_cheapest(["ab", ""], ["ba", ""], FEES, value), False)

    def test_triangle(self):
        prices = [("x", 3), ("y", 5)]
        trains = [list(train) for train in plain_train_far(["xxy", "a"], prices)]
        for one, other, third in itertools.product(trains[::3], repeat=3):
            straight = train_distance(one, third, prices)
            self.assertLessEqual(straight, train_distance(one, other, prices) + train_distance(other, third, prices))

    def test_ordinary(self):
        self.assertEqual([train_distance(["ab", ""], ["ba", ""], FEES), first_train_deeds(["ab", ""], ["ba", ""], FEES)],
                         [1, [(0, 0, 0)]])
        self.assertIs(is_cheapest(["ab", ""], ["ba", ""], FEES, train_road(["ab", ""], ["ba", ""], FEES)), True)
        self.assertEqual([train_price(["ab", ""], FEES, [(0, 0, 0)]), train_price(["ab", ""], FEES, [])], [1, 0])
        self.assertIsNone(train_distance(["a"], ["a", ""], FEES))
        self.assertIsNone(train_distance(["a"], ["b"], FEES))
        for one, other in [(["ab", ""], ["", "ab"]), ([""], [""]), (["", ""], ["", ""])]:
            self.assertEqual([first_train_deeds(one, other, FEES), train_road(one, other, FEES)], [[], []])
            self.assertEqual(train_distance(one, other, FEES), 0)

    def test_six_words_and_60_letters(self):
        prices = [(letter, 1 + k * 7 % 5) for k, letter in enumerate("abcdefghijklmnopqrstuvwxyz")]
        dear = [("x", GREAT), ("y", GREAT - 1)]
        for seed, (text, fees) in enumerate([("abcdefghijklmnopqrstuvwxyz" * 2 + "abcdefgh", prices), ("xy" * 30, prices),
                                             ("wxyz" * 15, prices), ("xy" * 30, dear)]):
            one, other = mixed_trains(text, 6, seed)
            road = train_road(one, other, fees)
            self.assertIs(is_cheapest(one, other, fees, road), True)
            self.assertIn(road[0], first_train_deeds(one, other, fees))
            self.assertEqual(train_distance(other, one, fees), train_price(one, fees, road))
            least = train_distance(one, other, fees)
            for deed in first_train_deeds(one, other, fees)[::17]:
                made = plain_train_deed(one, deed)
                self.assertEqual(train_distance(made, other, fees), least - dict(fees)[one[deed[0]][deed[1]]])

    def test_refused(self):
        for function in (train_distance, train_road, first_train_deeds):
            check_refusals(self, function, TWO, TWO_WRONG)
        check_refusals(self, is_cheapest, {**TWO, "value": []}, TWO_WRONG)
        roads = NOT_LISTS + [[None], [(0, 0)], [(0, 2, 0)], [(0, 0, 2)], [(0, True, 0)], [[0, 0, 0]], [(0, 0, 0), (0, 1, 0)]]
        check_refusals(self, train_price, {"train": ["ab", ""], "prices": FEES, "deeds": []},
                       {"train": (InvalidTrain, NOT_TRAINS), "prices": (InvalidPrices, NOT_PRICES),
                        "deeds": (InvalidRoad, roads)})

    def test_unlike(self):
        for one, other in [(["a", "b"], ["ab"]), (["ab", "c"], ["acc", ""]), (["ac"], ["bc"]), (["c"], ["cc"])]:
            parting = train_parting(one, other, "ab")
            self.assertIsNotNone(parting)
            self.assertIsNone(train_distance(one, other, FEES))
            for function, more in [(lie_values, ()), (lie_lots, (0,)), (train_road, ()), (is_cheapest, ([],)),
                                   (is_cheapest, (None,)), (first_train_deeds, ())]:
                with self.assertRaises(Unlike) as caught:
                    function(one, other, FEES, *more)
                self.assertEqual(caught.exception.value, parting)
                # All else is refused ahead of it.
                for arguments, error in [((None, other, FEES), InvalidTrain), ((one, None, FEES), InvalidTrain),
                                         ((one, other, None), InvalidPrices)]:
                    with self.assertRaises(error):
                        function(*arguments, *more)
            with self.assertRaises(InvalidNumber):
                lie_lots(one, other, FEES, 99)


if __name__ == "__main__":
    unittest.main()
