"""Points 69 to 71: far words."""

import itertools
import random
import unittest

from plain import NOT_COUNTS, NOT_JOINTS, NOT_LISTS, check_refusals, plain_deed
from sideswaps.classes import comes
from sideswaps.errors import InvalidFar, InvalidJoints, InvalidNumber, InvalidRoad, TooLong
from sideswaps.farwords import far_done, far_length, far_parting, far_swapped, far_word, is_far, letter_after, letter_at
from sideswaps.farwords import plain_far, star_runs
from sideswaps.oftens import done_often
from sideswaps.rings import star_ring
from sideswaps.words import done

MANY = 10 ** 29
GREAT = 10 ** 30 - 1
NOT_FAR = NOT_LISTS + [
    [None], ["a"], [("a",)], [("a", 1, 1)], [("a", -1)], [("a", True)], [("a", "1")], [["a", 1]], [("A", 1)], [("ab", 1)],
    [("", 1)], [(1, "a")], [("a", 1), None], [("_", 1)], [("*", 1)], [(["a"], 1)],
]
FAR, BACK = [("a", MANY), ("b", MANY)], [("b", MANY), ("a", MANY)]


def runs_in(text):
    """The runs of a text."""
    return [(sign, len(list(each))) for sign, each in itertools.groupby(text)]


def drawn_far(draw, letters, most, tuples=5):
    """Any far word, with tuples of no letter, too."""
    return [(draw.choice(letters), draw.randrange(most)) for _ in range(draw.randrange(tuples))]


def plain_star_runs(word, joints):
    """The runs of the first star ring of a word, read round from the beginning of a run."""
    text = star_ring(word, joints)
    return runs_in(text)


class FarWordsTest(unittest.TestCase):
    def test_against_words(self):
        draw = random.Random(1)
        for _ in range(400):
            far = drawn_far(draw, "axy", 4)
            word = "".join(letter * times for letter, times in far)
            self.assertEqual([far_word(far), far_length(far), plain_far(far)], [word, len(word), runs_in(word)])
            self.assertEqual([letter_at(far, place) for place in range(len(word))], list(word))
            self.assertEqual(star_runs(far, "xy"), plain_star_runs(word, "xy"), far)
            self.assertEqual(star_runs(far, "a"), plain_star_runs(word, "a"))
            for place, letter in enumerate(word):
                if letter in "xy":
                    self.assertEqual(far_swapped(far, "xy", place), runs_in(plain_deed(word, place)))

    def test_star_runs(self):
        # The first text is not always that of the longest run of stars, nor of the shortest next one.
        for word in ("xbxxa", "aaxbxab", "bxaaxb", "abxabxab", "axxbxxaxx", "bxbxaxbbxbxa", "cxbxbxc"):
            self.assertEqual(star_runs(runs_in(word), "x"), plain_star_runs(word, "x"), word)
        for size in range(8):
            for letters in itertools.product("abx", repeat=size):
                word = "".join(letters)
                self.assertEqual(star_runs(runs_in(word), "x"), plain_star_runs(word, "x"), word)
        self.assertEqual(star_runs([("a", 2), ("x", 3), ("b", 1)], "x"), [("*", 3), ("b", 1), ("*", 1), ("a", 2)])
        self.assertEqual([star_runs(FAR, "ab"), star_runs([], ""), star_runs(FAR, "c")],
                         [[("*", 2 * MANY + 1)], [("*", 1)], [("*", 1)] + FAR])

    def test_roads(self):
        draw = random.Random(2)
        for _ in range(150):
            far = drawn_far(draw, "axy", 4)
            word, road = far_word(far), []
            made = word
            for _ in range(draw.randrange(6)):
                places = [place for place, letter in enumerate(made) if letter in "xy"]
                if places:
                    road.append(draw.choice(places))
                    made = plain_deed(made, road[-1])
            self.assertEqual(far_done(far, "xy", road), runs_in(done(word, "xy", road)))

    def test_letter_after(self):
        draw = random.Random(3)
        for _ in range(300):
            far = [("a", 1)] + drawn_far(draw, "abcde", 3)
            word = far_word(far)
            place, made = draw.randrange(len(word)), word
            for many in range(40):
                spot = draw.randrange(len(word))
                self.assertEqual(letter_after(far, place, many, spot), made[spot], (far, place, many, spot))
                made = plain_deed(made, place)
            made = done_often(word, [place], GREAT)
            self.assertEqual("".join(letter_after(far, place, GREAT, spot) for spot in range(len(word))), made)

    def test_numbers_of_30_figures(self):
        told = [far_length(FAR) == 2 * MANY, letter_at(FAR, MANY - 1), letter_at(FAR, MANY), letter_at(FAR, 2 * MANY - 1)]
        self.assertEqual(told, [True, "a", "b", "b"])
        self.assertEqual(far_swapped(FAR, "b", MANY), BACK)
        self.assertEqual(far_swapped(FAR, "a", 7), [("a", MANY - 8), ("b", MANY), ("a", 8)])
        self.assertEqual(letter_after(FAR, 0, MANY, 0), "b")
        far = [(letter, GREAT - k) for k, letter in enumerate("abcabcabcabc")]
        self.assertEqual(plain_far(far), far)
        size = far_length(far)
        self.assertEqual([letter_at(far, 0), letter_at(far, size - 1), letter_at(far, GREAT)], ["a", "c", "b"])
        made = far_swapped(far, "b", GREAT)
        self.assertEqual(made, [("b", GREAT - 2)] + far[2:] + [("b", 1), ("a", GREAT)])
        # Deeds at the first place let the letters follow one another.
        self.assertEqual([letter_after(far, 0, many, 0) for many in (0, GREAT - 1, GREAT, GREAT + far[1][1])], list("aabc"))
        for many, spot in [(GREAT, size - 1), (12345, GREAT), (GREAT - 1, 3)]:
            self.assertEqual(letter_after(far, 0, many, spot), letter_at(far, (many + spot) % size))
        runs = star_runs(far, "b")
        self.assertEqual([sum(times for _, times in runs), runs[0]], [size + 1, ("*", GREAT - 1)])

    def test_far_done_40_places(self):
        far = [(letter, MANY + k) for k, letter in enumerate("xaybxyzbxyab")]
        road, made = [], plain_far(far)
        for k in range(40):
            places = [place for place in range(k, k + 3 * MANY, MANY // 3) if letter_at(made, place) in "xyz"]
            road.append(places[-1])
            made = far_swapped(made, "xyz", road[-1])
        self.assertEqual(far_done(far, "xyz", road), made)
        self.assertEqual(far_done(far, "xyz", []), far)
        with self.assertRaises(InvalidRoad):
            far_done(far, "xyz", road + [far_length(far)])

    def test_one_letter_in_two_tuples_and_the_number_0(self):
        self.assertEqual(plain_far([("a", 2), ("b", 0), ("a", 1)]), [("a", 3)])
        self.assertEqual([plain_far([]), plain_far([("a", 0)]), plain_far([("a", 0), ("a", 0), ("b", 1)])], [[], [], [("b", 1)]])
        self.assertEqual([far_done([("x", 1), ("x", 2), ("y", 0)], "", []), letter_at([("a", 0), ("b", 1)], 0)], [[("x", 3)], "b"])
        self.assertEqual(far_swapped([("x", 2), ("a", 1)], "x", 0), [("x", 1), ("a", 1), ("x", 1)])
        self.assertEqual(far_swapped([("x", 1), ("y", 0), ("x", 1)], "x", 1), [("x", 2)])

    def test_far_word_of_300_letters_and_301(self):
        self.assertEqual(far_word([("a", 150), ("b", 150)]), "a" * 150 + "b" * 150)
        self.assertEqual([far_word([]), far_word([("a", 0)]), far_word([("a", 300), ("b", 0)])], ["", "", "a" * 300])
        for far, size in [([("a", 301)], 301), ([("a", 300), ("b", 1)], 301), (FAR, 2 * MANY), ([("a", 151)] * 2, 302)]:
            with self.assertRaises(TooLong) as caught:
                far_word(far)
            self.assertEqual(caught.exception.value, size)

    def test_is_far(self):
        for value in ([], [("a", 0)], FAR, [("a", 1), ("a", 1)], [("z", 10 ** 40)], [("a", 1)] * 13):
            self.assertIs(is_far(value), True)
        for value in NOT_FAR:
            self.assertIs(is_far(value), False, value)

    def test_refused(self):
        far = (InvalidFar, NOT_FAR)
        for function in (far_length, plain_far, far_word):
            check_refusals(self, function, {"far": [("a", 1)]}, {"far": far})
        joints, places = (InvalidJoints, NOT_JOINTS), NOT_COUNTS + [3, 10 ** 29]
        two = [("a", 1), ("x", 2)]
        check_refusals(self, letter_at, {"far": two, "place": 1}, {"far": far, "place": (InvalidNumber, places)})
        check_refusals(self, far_swapped, {"far": two, "joints": "x", "place": 1},
                       {"far": far, "joints": joints, "place": (InvalidNumber, places + [0])})
        roads = NOT_LISTS + [[0], [3], [-1], [True], ["1"], [None], [1, 1, 0, 0], [[1]], [(1,)]]
        check_refusals(self, far_done, {"far": two, "joints": "x", "road": [1, 0]},
                       {"far": far, "joints": joints, "road": (InvalidRoad, roads)})
        check_refusals(self, letter_after, {"far": two, "place": 1, "many": 5, "spot": 2}, {
            "far": far, "place": (InvalidNumber, places), "many": (InvalidNumber, NOT_COUNTS),
            "spot": (InvalidNumber, places),
        })
        check_refusals(self, star_runs, {"far": two, "joints": "x"}, {"far": far, "joints": joints})
        for function, good in [(letter_at, {"far": [], "place": 0}), (letter_at, {"far": [("a", 0)], "place": 0})]:
            check_refusals(self, function, good, {"place": (InvalidNumber, [0])})


class PartingTest(unittest.TestCase):
    def test_against_words(self):
        draw, kinds = random.Random(4), set()
        for _ in range(1500):
            one = drawn_far(draw, "axy", 3)
            other = draw.choice([one[::-1], one[1:] + one[:1], drawn_far(draw, "axy", 3)])
            first, second = far_word(one), far_word(other)
            for joints in ("x", "xy"):
                told = far_parting(one, other, joints)
                self.assertIs(told is None, comes(first, second, joints))
                runs = (plain_star_runs(first, joints), plain_star_runs(second, joints))
                if runs[0] != runs[1]:
                    self.assertEqual(told, ("ring", *runs))
                elif told is not None:
                    letter = [each for each in joints if first.count(each) != second.count(each)][0]
                    self.assertEqual(told, ("joint", letter, first.count(letter), second.count(letter)))
                kinds.add(told and told[0])
        self.assertEqual(kinds, {None, "ring", "joint"})

    def test_ordinary(self):
        told = [far_parting(FAR, BACK, "b"), far_parting([("a", MANY), ("b", 1)], [("a", MANY), ("c", 1)], "bc"),
                far_parting([("a", 1), ("b", 2)], [("b", 1), ("a", 1), ("b", 1)], "")]
        self.assertEqual(told, [None, ("joint", "b", 1, 0),
                                ("ring", [("*", 1), ("a", 1), ("b", 2)], [("*", 1), ("b", 1), ("a", 1), ("b", 1)])])
        self.assertIsNone(far_parting([], [("a", 0)], ""))
        self.assertEqual(far_parting([("x", 2)], [("x", 1)], "x"), ("ring", [("*", 3)], [("*", 2)]))
        self.assertIsNone(far_parting([("x", 1), ("x", 2)], [("x", 3)], ""))

    def test_refused(self):
        far = (InvalidFar, NOT_FAR)
        check_refusals(self, far_parting, {"one": FAR, "other": BACK, "joints": "ab"},
                       {"one": far, "other": far, "joints": (InvalidJoints, NOT_JOINTS)})


if __name__ == "__main__":
    unittest.main()
