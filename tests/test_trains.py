"""Points 33 to 37: trains, their deeds, their roads and their classes."""

import copy
import math
import unittest

from plain import NOT_JOINTS, NOT_LISTS, NOT_TRAINS, check_refusals, plain_first, plain_train_deed, plain_train_deeds
from plain import plain_train_far, plain_turnings, trains_up_to
from sideswaps.classes import comes
from sideswaps.errors import InvalidDeed, InvalidJoints, InvalidRoad, InvalidTrain, TooMany
from sideswaps.rings import star_ring
from sideswaps.sizes import class_size, class_words
from sideswaps.trains import are_alike, first_train, how_many_lists, how_many_trains, is_train, is_train_road, train_back
from sideswaps.trains import train_deeds, train_done, train_parting, train_ring, train_swapped, train_text, trains_of
from sideswaps.words import swapped

TRAIN = {"train": ["ab", "c"], "joints": "b"}
TRAIN_WRONG = {"train": (InvalidTrain, NOT_TRAINS), "joints": (InvalidJoints, NOT_JOINTS)}
NOT_DEEDS = [
    None, True, 1, "010", [0, 1, 0], (), (0, 1), (0, 1, 0, 0), (0, 0, 0), (1, 0, 0), (0, 1, 2), (2, 0, 0), (0, 2, 0),
    (-1, 0, 0), (0, -1, 0), (0, 1, -1), (0, True, 0), (False, 1, 0), (0, 1, True), ("0", 1, 0), (0, None, 0), ((0, 1, 0),),
]
SMALL = [train for words in (1, 2, 3) for train in trains_up_to("axy", words, 3)] + trains_up_to("xy", 4, 2)


class TrainTest(unittest.TestCase):
    def test_is_train(self):
        for value in ([""], ["ab"], ["", ""], ["a"] * 12, [""] * 12, ["x" * 300], ["x" * 301]):
            self.assertIs(is_train(value), True)
            self.assertEqual(train_text(value), "".join(word + "_" for word in value))
        for value in NOT_TRAINS + [[""] * 13]:
            self.assertIs(is_train(value), False)

    def test_first_and_alike(self):
        for train in SMALL:
            turnings = plain_turnings(train)
            self.assertEqual(first_train(train), min(turnings))
            self.assertTrue(all(are_alike(train, other) for other in turnings))
        for one in trains_up_to("ab", 3, 2):
            for other in trains_up_to("ab", 3, 2) + trains_up_to("ab", 2, 2):
                self.assertIs(are_alike(one, other), other in plain_turnings(one))
        self.assertEqual([first_train(["b", "a", ""]), are_alike(["a", "b"], ["b", "a"])], [["", "b", "a"], True])
        # The first is so by Python's order of lists, not by the order of words.
        self.assertEqual(first_train(["b", "aaa"]), ["aaa", "b"])
        self.assertEqual([first_train([""]), first_train(["a"] * 12)], [[""], ["a"] * 12])
        self.assertIs(are_alike(["a", "b", "c"], ["a", "c", "b"]), False)

    def test_told_trains_are_new(self):
        train = ["a", "b"]
        for told in (first_train(train), train_done(train, "", []), trains_of(train, "")[0]):
            self.assertEqual(told, train)
            told.append("changed")
            self.assertEqual(train, ["a", "b"])

    def test_refused(self):
        for function in (train_text, first_train):
            check_refusals(self, function, {"train": ["ab", "c"]}, {"train": (InvalidTrain, NOT_TRAINS)})
        check_refusals(self, are_alike, {"one": ["ab", "c"], "other": ["c", "ab"]},
                       {"one": (InvalidTrain, NOT_TRAINS), "other": (InvalidTrain, NOT_TRAINS)})


class TrainDeedTest(unittest.TestCase):
    def test_against_signs(self):
        for joints in ("", "x", "xy"):
            for train in SMALL:
                deeds = plain_train_deeds(train, joints)
                self.assertEqual(train_deeds(train, joints), deeds)
                for deed in deeds:
                    made = plain_train_deed(train, deed)
                    self.assertEqual(train_swapped(train, joints, deed), made)
                    back = train_back(train, joints, deed)
                    self.assertIn(back, plain_train_deeds(made, joints))
                    again = train_swapped(made, joints, back)
                    self.assertTrue(are_alike(again, train))
                    self.assertTrue(are_alike(train_swapped(again, joints, train_back(made, joints, back)), made))

    def test_cells_of_the_way_back(self):
        # All letters are unlike, so that only one deed exchanges the same two cells again.
        for train in (["ab", "c"], ["abc", "", "de"], ["", "ab", "", "cd"], ["abcd"]):
            for deed in train_deeds(train, "abcde"):
                made = train_swapped(train, "abcde", deed)
                fitting = [back for back in train_deeds(made, "abcde")
                           if made[back[0]][back[1]] == train[deed[0]][deed[1]]
                           and are_alike(train_swapped(made, "abcde", back), train)]
                self.assertIn(train_back(train, "abcde", deed), fitting)
                if len(train) < 3:
                    self.assertEqual([train_back(train, "abcde", deed)], fitting)

    def test_one_word(self):
        for word in ("axbyc", "x", "yxxy", ""):
            for place, letter in enumerate(word):
                if letter in "xy":
                    self.assertEqual(train_swapped([word], "xy", (0, place, 0)), [swapped(word, "xy", place)])
                    self.assertEqual(train_back([word], "xy", (0, place, 0)), (0, len(word) - 1 - place, 0))
        self.assertEqual(train_deeds(["axby"], "xy"), [(0, 1, 0), (0, 3, 0)])

    def test_ordinary(self):
        told = [train_swapped(["ab", "c"], "abc", (0, 1, 1)), train_swapped(["ab", "c"], "abc", (0, 1, 0)),
                train_back(["ab", "c"], "abc", (0, 1, 1)), train_deeds(["ab", "c"], "b")]
        self.assertEqual(told, [["cba", ""], ["a", "bc"], (0, 1, 0), [(0, 1, 0), (0, 1, 1)]])
        self.assertEqual([train_deeds([""], "x"), train_deeds(["ab"], "x"), train_deeds(["", "", ""], "x")], [[], [], []])

    def test_twelve_words(self):
        train = ["x" * 25] * 12
        deeds = train_deeds(train, "x")
        self.assertEqual([len(deeds), deeds[0], deeds[-1]], [3600, (0, 0, 0), (11, 24, 11)])
        self.assertEqual(train_swapped(train, "x", (3, 4, 11)), plain_train_deed(train, (3, 4, 11)))

    def test_refused(self):
        check_refusals(self, train_deeds, TRAIN, TRAIN_WRONG)
        for function in (train_swapped, train_back):
            check_refusals(self, function, {**TRAIN, "deed": (0, 1, 0)}, {**TRAIN_WRONG, "deed": (InvalidDeed, NOT_DEEDS)})


class TrainRoadTest(unittest.TestCase):
    def test_all_short_roads(self):
        for train in (["ax", "y"], ["xa", ""], ["", "x", "y"]):
            numbers = [(car, place, gap) for car in range(3) for place in range(3) for gap in range(3)]
            for first in numbers:
                for second in numbers:
                    made, is_road = train, True
                    for deed in (first, second):
                        is_road = is_road and deed in plain_train_deeds(made, "xy")
                        made = plain_train_deed(made, deed) if is_road else made
                    self.assertIs(is_train_road(train, "xy", [first, second]), is_road)
                    if is_road:
                        self.assertEqual(train_done(train, "xy", [first, second]), made)

    def test_ordinary(self):
        self.assertIs(is_train_road(["ab"], "b", [(0, 1, 0), (0, 1, 0)]), False)
        self.assertEqual(train_done(["axb", "c"], "x", [(0, 1, 1), (0, 1, 0)]), ["c", "axb"])
        self.assertEqual([is_train_road([""], "", []), train_done(["", "b"], "", [])], [True, ["", "b"]])
        for value in NOT_LISTS + [[deed] for deed in NOT_DEEDS]:
            self.assertIs(is_train_road(["ab", "c"], "b", value), False)

    def test_200_deeds(self):
        train, deeds, made = ["xay" * 25] * 4, [], ["xay" * 25] * 4
        for number in range(200):
            there = plain_train_deeds(made, "xy")
            deeds.append(there[number * 37 % len(there)])
            made = plain_train_deed(made, deeds[-1])
        self.assertIs(is_train_road(train, "xy", deeds), True)
        self.assertEqual(train_done(train, "xy", deeds), made)
        back = []
        for number in range(200):
            back.insert(0, train_back(train_done(train, "xy", deeds[:number]), "xy", deeds[number]))
        self.assertTrue(are_alike(train_done(made, "xy", back[:1]), train_done(train, "xy", deeds[:199])))

    def test_refused(self):
        check_refusals(self, is_train_road, {**TRAIN, "value": []}, TRAIN_WRONG)
        wrong = {**TRAIN_WRONG, "deeds": (InvalidRoad, NOT_LISTS + [[deed] for deed in NOT_DEEDS] + [[(0, 1, 0)] * 2])}
        check_refusals(self, train_done, {**TRAIN, "deeds": [(0, 1, 0)]}, wrong)


class TrainClassTest(unittest.TestCase):
    def test_ring(self):
        for train in SMALL:
            text = "".join("*" if sign in "x_" else sign for sign in train_text(train))
            self.assertEqual(train_ring(train, "x"), min(text[k:] + text[:k] for k in range(len(text))))
        self.assertEqual(train_ring(["axb", "c"], "x"), "*a*b*c")
        self.assertEqual(train_ring(["xay"], "xy"), star_ring("xay", "xy"))

    def test_against_deeds(self):
        for joints in ("", "x", "xy"):
            prices = [(letter, 1) for letter in joints]
            for words in (1, 2, 3):
                trains = trains_up_to("axy", words, 3)
                classes = {}
                for train in trains:
                    classes.setdefault(plain_first(train), tuple(sorted(plain_train_far(train, prices))))
                for train in trains:
                    members = classes[plain_first(train)]
                    self.assertEqual(how_many_trains(train, joints), len(members))
                    self.assertEqual(trains_of(train, joints), [list(each) for each in members])
                    lists = {tuple(turning) for each in members for turning in plain_turnings(list(each))}
                    self.assertEqual(how_many_lists(train, joints), len(lists))
                for one in trains[::3]:
                    for other in trains[::5]:
                        told = train_parting(one, other, joints)
                        self.assertIs(told is None, plain_first(other) in classes[plain_first(one)])
                        self.assertEqual(told, self.plain_parting(one, other, joints))

    def plain_parting(self, one, other, joints):
        first, second = train_ring(one, joints), train_ring(other, joints)
        if first != second:
            return ("ring", first, second)
        for letter in joints:
            many, wanted = ["".join(train).count(letter) for train in (one, other)]
            if many != wanted:
                return ("joint", letter, many, wanted)
        return None

    def test_more_turnings(self):
        for train, joints in [(["x", "x", "x", "x"], "x"), (["xy", "xy"], "xy"), (["ax", "ax"], "x"), (["ax"] * 3, "x"),
                              (["axay", "axay"], "xy"), (["a", "a", "a"], "x"), (["", "", "", ""], "x"), (["xax", "xax"], "x"),
                              (["a", "ax", "x"], "ax"), (["xx", "xx", "xx"], "x"), (["a", "aa", "", "x"], "x")]:
            members = sorted(plain_train_far(train, [(letter, 1) for letter in joints]))
            self.assertEqual(trains_of(train, joints), [list(each) for each in members])
            self.assertEqual(how_many_trains(train, joints), len(members))
            lists = {tuple(turning) for each in members for turning in plain_turnings(list(each))}
            self.assertEqual(how_many_lists(train, joints), len(lists))

    def test_one_word(self):
        for word in ("xay", "xax", "xyxy", "ab", "", "axbyxc"):
            self.assertEqual(how_many_trains([word], "xy"), class_size(word, "xy"))
            self.assertEqual(how_many_lists([word], "xy"), class_size(word, "xy"))
            self.assertEqual(trains_of([word], "xy"), [[each] for each in class_words(word, "xy")])
        for one, other in [("xay", "yax"), ("xay", "xaa"), ("ax", "ay"), ("ax", "bx")]:
            self.assertIs(train_parting([one], [other], "xy") is None, comes(one, other, "xy"))

    def test_ordinary(self):
        told = [train_parting(["a", "b"], ["ab"], "ab"), train_parting(["ab", "c"], ["ac", "b"], ""),
                train_parting(["ax", ""], ["ay", ""], "xy"), train_parting(["a", "b"], ["ab", ""], "a")]
        self.assertEqual(told, [("cars", 2, 1), ("ring", "*ab*c", "*ac*b"), ("joint", "x", 1, 0), None])
        # How many words they have is told ahead of all else.
        self.assertEqual(train_parting(["ab"], ["c", "d", ""], ""), ("cars", 1, 3))
        told = [how_many_trains(["axb", "c"], "x"), how_many_lists(["axb", "c"], "x"), how_many_trains(["x", "x"], "x"),
                trains_of(["x", "x"], "x")]
        self.assertEqual(told, [3, 6, 2, [["", "xx"], ["x", "x"]]])

    def test_great_numbers(self):
        self.assertEqual(how_many_trains(["x" * 300], "x"), 1)
        # 301 is no multiple of 12, but 312 cells are 12 times 26: necklaces of 12 holes on 312 cells.
        many = sum(math.comb(312 // d, 12 // d) * sum(math.gcd(k, d) == 1 for k in range(1, d + 1)) for d in (1, 2, 3, 4, 6, 12))
        self.assertEqual(how_many_trains(["x" * 25] * 12, "x"), many // 312)
        self.assertEqual(how_many_lists(["x" * 25] * 12, "x"), 12 * math.comb(312, 12) // 312)

    def test_about_600(self):
        for train, joints, many in [(["xa" * 23, "xa"], "x", None), (["x" * 149, "x" * 151], "x", 151), (["", "xyzvw"], "vwxyz", 360)]:
            told = trains_of(train, joints)
            self.assertEqual(len(told), how_many_trains(train, joints))
            self.assertTrue(many is None or len(told) == many)
            self.assertEqual(told, sorted(told))
            self.assertTrue(all(plain_first(each) == tuple(each) for each in told))
        # 25 stars for the hole, and 24 are left for the letter that stands there once.
        self.assertEqual(len(trains_of(["a" + "x" * 23 + "y"], "xy")), 600)
        self.assertEqual(len(trains_of(["a" + "x" * 23, ""], "x")), 25 * 24 // 2)
        for train, joints, many in [(["a" + "x" * 24 + "y"], "xy", 650), (["xa" * 600 + "b"], "x", 601),
                                    (["x" * 25] * 12, "x", None), (["xyzw", "xy"], "wxyz", 630)]:
            with self.assertRaises(TooMany) as caught:
                trains_of(train, joints)
            self.assertEqual(caught.exception.value, how_many_trains(train, joints))
            self.assertTrue(many is None or caught.exception.value == many)

    def test_refused(self):
        for function in (train_ring, how_many_trains, how_many_lists, trains_of):
            check_refusals(self, function, TRAIN, TRAIN_WRONG)
        # The joints are refused also where the trains have unlike numbers of words.
        for other in (["ac", "b"], ["ab"]):
            check_refusals(self, train_parting, {"one": ["ab", "c"], "other": other, "joints": "b"},
                           {"one": (InvalidTrain, NOT_TRAINS), "other": (InvalidTrain, NOT_TRAINS),
                            "joints": (InvalidJoints, NOT_JOINTS)})

    def test_arguments_stay(self):
        train, deeds = ["axb", "c"], [(0, 1, 1), (0, 1, 0)]
        kept = copy.deepcopy([train, deeds])
        for _ in range(2):
            train_done(train, "x", deeds).append("changed")
            train_swapped(train, "x", deeds[0]).append("changed")
            first_train(train).append("changed")
            for told in trains_of(train, "x"):
                told.append("changed")
            self.assertEqual([train, deeds], kept)


if __name__ == "__main__":
    unittest.main()
