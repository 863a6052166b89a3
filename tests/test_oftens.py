"""Points 58 and 59: programs that are done several times."""

import math
import random
import unittest

from plain import NOT_COUNTS, NOT_LISTS, NOT_WORDS, check_refusals, words_over
from sideswaps.errors import InvalidNumber, InvalidRoad, InvalidWord
from sideswaps.oftens import done_often, ever_places, moves_often, order_of, places_often, times_needed, word_order
from sideswaps.programs import done_by, joint_places, moves_of
from test_programs import ALPHABET, NOT_PROGRAMS, SIZES, programs_up_to

GREAT = 10 ** 30 - 1
TIMES = (InvalidNumber, NOT_COUNTS)


class OftensTest(unittest.TestCase):
    def test_moves_and_words(self):
        for size in range(5):
            for program in programs_up_to(size, 3):
                for times in range(8):
                    self.assertEqual(moves_often(size, program, times), moves_of(size, program * times))
                    word = "abca"[:size]
                    self.assertEqual(done_often(word, program, times), done_by(word, program * times))
                order = order_of(size, program)
                self.assertEqual(moves_often(size, program, GREAT), moves_of(size, program * (GREAT % order)))

    def test_orders(self):
        for size in range(5):
            for program in programs_up_to(size, 3):
                order = 1
                while moves_of(size, program * order) != list(range(size)):
                    order += 1
                self.assertEqual(order_of(size, program), order)
                for word in words_over("ab", size):
                    least = 1
                    while done_by(word, program * least) != word:
                        least += 1
                    self.assertEqual(word_order(word, program), least, (word, program))
                    self.assertEqual(order % least, 0)

    def test_order_of_one_place(self):
        for size in range(1, 61):
            for place in range(size):
                shared = math.gcd(size + 1, place + 1)
                length = (size + 1) // shared
                self.assertEqual(order_of(size, [place]), size if shared == 1 else length * (length - 1))

    def test_places(self):
        for size in range(5):
            for program in programs_up_to(size, 3):
                ever = joint_places(size, program * order_of(size, program))
                self.assertEqual(ever_places(size, program), ever)
                for times in list(range(8)):
                    self.assertEqual(places_often(size, program, times), joint_places(size, program * times))
                self.assertEqual(places_often(size, program, GREAT), ever)
                needed = times_needed(size, program)
                self.assertEqual(joint_places(size, program * needed), ever)
                if needed > 0:
                    self.assertNotEqual(joint_places(size, program * (needed - 1)), ever)
                self.assertIs(needed == 0, program == [])

    def test_ordinary(self):
        self.assertEqual([order_of(4, [1]), order_of(5, [1]), order_of(5, [2])], [4, 6, 2])
        self.assertEqual([moves_often(5, [2], 10 ** 20), done_often("abcde", [1], 5)], [[0, 1, 2, 3, 4], "edabc"])
        self.assertEqual([word_order("aabaa", [2]), word_order("", []), order_of(0, []), order_of(60, [])], [1] * 4)
        self.assertEqual([places_often(5, [2], 7), places_often(5, [1], 1), places_often(5, [1], 0)], [[2], [1], []])
        self.assertEqual([ever_places(5, [1]), times_needed(5, [1]), times_needed(5, [])], [[1, 3], 2, 0])
        self.assertEqual([ever_places(0, []), times_needed(0, []), places_often(0, [], GREAT)], [[], 0, []])

    def test_at_the_limits(self):
        draw = random.Random(5)
        program = [draw.randrange(60) for _ in range(1000)]
        word = "".join(draw.choice(ALPHABET) for _ in range(60))
        order = order_of(60, program)
        self.assertEqual(moves_often(60, program, order), list(range(60)))
        self.assertEqual(moves_often(60, program, 1), moves_of(60, program))
        self.assertEqual(done_often(word, program, GREAT), done_often(word, program, GREAT % order))
        self.assertEqual(done_often(word, program, 2), done_by(done_by(word, program), program))
        self.assertEqual(order % word_order(word, program), 0)
        self.assertEqual(places_often(60, program, 1), joint_places(60, program))
        one = [draw.randrange(60)]
        for times in (0, 1, 2, 5, 17, 58):
            self.assertEqual(places_often(60, one, times), joint_places(60, one * times))
        self.assertEqual(places_often(60, one, GREAT), ever_places(60, one))

    def test_refused(self):
        program = (InvalidRoad, NOT_PROGRAMS)
        for function in (moves_often, places_often):
            check_refusals(self, function, {"size": 4, "program": [1, 0], "times": 2},
                           {"size": SIZES, "program": program, "times": TIMES})
        for function in (order_of, ever_places, times_needed):
            check_refusals(self, function, {"size": 4, "program": [1, 0]}, {"size": SIZES, "program": program})
        check_refusals(self, done_often, {"word": "abcd", "program": [1], "times": 2},
                       {"word": (InvalidWord, NOT_WORDS), "program": program, "times": TIMES})
        check_refusals(self, word_order, {"word": "abcd", "program": [1]},
                       {"word": (InvalidWord, NOT_WORDS), "program": program})
        for function in (order_of, ever_places, times_needed):
            check_refusals(self, function, {"size": 0, "program": []}, {"program": (InvalidRoad, NOT_LISTS + [[0]])})


if __name__ == "__main__":
    unittest.main()
