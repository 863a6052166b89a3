"""Points 54 to 57: programs."""

import itertools
import random
import unittest

from plain import NOT_COUNTS, NOT_LISTS, NOT_WORDS, check_refusals, plain_deed, words_over
from sideswaps.errors import InvalidList, InvalidNumber, InvalidRoad, InvalidWord
from sideswaps.fewest import fewest_deeds
from sideswaps.programs import done_by, fewest_places, first_program, how_many_programs, joined_program, joint_places
from sideswaps.programs import moves_of, parting_by, programs_alike, undone
from sideswaps.roads import cheapest_road, how_many_cheapest
from sideswaps.words import done, is_road, moved

ALPHABET = "abcdefghijklmnopqrstuvwxyz"
SIZES = (InvalidNumber, NOT_COUNTS + [61, 10 ** 30])
# What is no program for 4 letters.
NOT_PROGRAMS = NOT_LISTS + [[4], [-1], [True], [0, False], ["0"], [None], [[0]], [(0,)], [0, 1, 2, 3, 4]]
NOT_PLACINGS = NOT_LISTS + [[1], [0, 0], [0, 2], [-1, 0], [False], [0, True], ["0"], [[0]], [None], [1, 1, 0], [0, 1, 3]]


def programs_up_to(size, places):
    """All programs of at most so many places."""
    return [list(each) for many in range(places + 1) for each in itertools.product(range(size), repeat=many)]


def plain_done(word, program):
    """The word that a program makes, deed by deed."""
    for place in program:
        word = plain_deed(word, place)
    return word


def plain_shortest(size):
    """For each placing its shortest programs in order, by trying all of them, place by place."""
    found = {tuple(range(size)): [[]]}
    level = dict(found)
    while level:
        later = {}
        for moves, programs in level.items():
            for place in range(size):
                made = moves[place + 1:] + (moves[place],) + moves[:place]
                if made not in found:
                    later.setdefault(made, []).extend(program + [place] for program in programs)
        found.update({moves: sorted(programs) for moves, programs in later.items()})
        level = later
    return found


class ProgramsTest(unittest.TestCase):
    def test_what_a_program_does(self):
        for size in range(5):
            letters = ALPHABET[:size]
            for program in programs_up_to(size, 3):
                made = plain_done(letters, program)
                self.assertEqual(moves_of(size, program), [letters.index(sign) for sign in made])
                self.assertEqual(moves_of(size, program), moved(letters, letters, program))
                self.assertEqual(done_by(letters, program), made)
                self.assertEqual(done_by(made, undone(size, program)), letters)
                self.assertEqual(moves_of(size, program + undone(size, program)), list(range(size)))

    def test_words_whose_letters_are_no_joints_or_alike(self):
        for word in words_over("ab", 4):
            for program in programs_up_to(4, 2):
                self.assertEqual(done_by(word, program), plain_done(word, program))

    def test_ordinary(self):
        self.assertEqual([moves_of(4, [1]), moves_of(4, [1, 0]), moves_of(3, [])], [[2, 3, 1, 0], [3, 1, 0, 2], [0, 1, 2]])
        self.assertEqual([done_by("abcd", [1]), done_by("abcd", [1, 0]), done_by("", [])], ["cdba", "dbac", ""])
        self.assertEqual([undone(4, [1, 0]), undone(0, []), undone(1, [0, 0])], [[3, 2], [], [0, 0]])

    def test_sizes_0_and_60_and_1000_places(self):
        draw = random.Random(1)
        program = [draw.randrange(60) for _ in range(1000)]
        word = "".join(draw.choice(ALPHABET) for _ in range(60))
        self.assertEqual(done_by(word, program), plain_done(word, program))
        self.assertEqual(moves_of(60, program), moved("x" * 60, "x", program))
        self.assertEqual(done_by(done_by(word, program), undone(60, program)), word)
        self.assertEqual([moves_of(0, []), moves_of(60, []), parting_by(0, [], [])], [[], list(range(60)), None])
        self.assertEqual([joint_places(0, []), undone(0, []), joined_program(0, [], [])], [[], [], []])
        self.assertEqual([programs_alike(0, [[], []]), programs_alike(0, []), programs_alike(60, [])], [[[0, 1]], [], []])
        self.assertIsNone(parting_by(60, program, program + [0, 59]))

    def test_parting_by(self):
        for size in range(5):
            words = words_over("abc", size)
            programs = programs_up_to(size, 2)
            for one in programs:
                for other in programs[:12]:
                    parted = [word for word in words if plain_done(word, one) != plain_done(word, other)]
                    self.assertEqual(parting_by(size, one, other), parted[0] if parted else None)
        self.assertEqual([parting_by(3, [0], [2]), parting_by(3, [0, 0, 0], [])], ["aab", None])

    def test_joint_places(self):
        for size in range(5):
            for program in programs_up_to(size, 3):
                places = joint_places(size, program)
                for word in words_over("ax", size):
                    can = all(word[place] == "x" for place in places)
                    self.assertIs(is_road(word, "x", program), can, (word, program))
                    if can:
                        self.assertEqual(done_by(word, program), done(word, "x", program))
        self.assertEqual([joint_places(4, [1, 0]), joint_places(4, [1, 2]), joint_places(4, [])], [[1, 2], [1], []])

    def test_programs_alike(self):
        programs = programs_up_to(3, 3)
        told = programs_alike(3, programs)
        self.assertEqual(sorted(number for each in told for number in each), list(range(len(programs))))
        self.assertEqual(told, sorted(sorted(each) for each in told))
        for one in told:
            for other in told:
                self.assertIs(moves_of(3, programs[one[0]]) == moves_of(3, programs[other[-1]]), one == other)
        self.assertEqual(programs_alike(3, [[0], [], [2, 2], [1, 1]]), [[0, 2], [1, 3]])
        self.assertEqual(programs_alike(60, [[7] * k for k in range(40)])[:2], [[0], [1]])
        self.assertEqual(programs_alike(5, [[2] * k for k in range(40)]), [list(range(0, 40, 2)), list(range(1, 40, 2))])

    def test_refused(self):
        for function, good, program in [
            (moves_of, {"size": 4, "program": [1, 0]}, ["program"]), (undone, {"size": 4, "program": [1]}, ["program"]),
            (joint_places, {"size": 4, "program": []}, ["program"]),
            (parting_by, {"size": 4, "one": [0], "other": [1]}, ["one", "other"]),
            (joined_program, {"size": 4, "one": [0], "other": [1]}, ["one", "other"]),
        ]:
            wrong = {"size": SIZES, **{name: (InvalidRoad, NOT_PROGRAMS) for name in program}}
            check_refusals(self, function, good, wrong)
        check_refusals(self, done_by, {"word": "abcd", "program": [1]},
                       {"word": (InvalidWord, NOT_WORDS), "program": (InvalidRoad, NOT_PROGRAMS)})
        lists = NOT_LISTS + [[each] for each in NOT_PROGRAMS if each != []] + [[[0], [4]], [[], None]]
        check_refusals(self, programs_alike, {"size": 4, "programs": [[0]]},
                       {"size": SIZES, "programs": (InvalidList, lists)})
        for function in (moves_of, undone, joint_places):
            check_refusals(self, function, {"size": 0, "program": []}, {"program": (InvalidRoad, [[0], (), None])})

    def test_words_beyond_the_limit(self):
        # A word of 61 letters is a word.
        self.assertEqual(done_by("a" + "b" * 60, [0]), "b" * 60 + "a")


class PlacingsTest(unittest.TestCase):
    def test_against_all_programs(self):
        for size in range(6):
            shortest = plain_shortest(size)
            self.assertEqual(len(shortest), len(list(itertools.permutations(range(size)))))
            for moves, programs in shortest.items():
                placing = list(moves)
                self.assertEqual(fewest_places(placing), len(programs[0]), placing)
                self.assertEqual(first_program(placing), programs[0], placing)
                self.assertEqual(how_many_programs(placing), len(programs), placing)
                self.assertLessEqual(len(programs[0]), size + size // 2)

    def test_joined_program(self):
        shortest = plain_shortest(4)
        programs = programs_up_to(4, 3)
        for one in programs[::3]:
            for other in programs[::7]:
                told = joined_program(4, one, other)
                self.assertEqual(told, shortest[tuple(moves_of(4, one + other))][0])
        self.assertEqual([joined_program(3, [0], [0]), joined_program(5, [], [])], [[2], []])

    def test_14_items(self):
        draw = random.Random(3)
        for _ in range(20):
            placing = list(range(14))
            draw.shuffle(placing)
            program = first_program(placing)
            self.assertEqual([moves_of(14, program), len(program)], [placing, fewest_places(placing)])
            self.check_first(placing, program)
            half = len(program) // 2
            self.assertEqual(joined_program(14, program[:half], program[half:]), program)

    def check_first(self, placing, program):
        """No program with an earlier place, the places ahead of it kept, is as short."""
        for spot, place in enumerate(program):
            for earlier in range(place):
                # What is left to do behind these places: the places of the placing in the word that is there then.
                made = moves_of(14, program[:spot] + [earlier])
                left = [made.index(item) for item in placing]
                self.assertGreater(spot + 1 + fewest_places(left), len(program))

    def test_60_items(self):
        back, turned = list(range(60))[::-1], [(place + 7) % 60 for place in range(60)]
        for placing in (back, turned, list(range(60))):
            many = fewest_places(placing)
            self.assertLessEqual(many, 90)
            program = first_program(placing)
            self.assertEqual([moves_of(60, program), len(program)], [placing, many])
            self.assertGreater(how_many_programs(placing), 0)
        self.assertEqual([fewest_places([]), first_program([]), how_many_programs([])], [0, [], 1])

    def test_against_words_of_unlike_letters(self):
        draw = random.Random(4)
        for size in list(range(1, 15)) + [20, 26]:
            placing = list(range(size))
            draw.shuffle(placing)
            one, other = ALPHABET[:size], "".join(ALPHABET[place] for place in placing)
            prices = [(letter, 1) for letter in ALPHABET]
            self.assertEqual(fewest_places(placing), fewest_deeds(one, other, ALPHABET))
            self.assertEqual(how_many_programs(placing), how_many_cheapest(one, other, prices))
            if size <= 14:
                self.assertEqual(first_program(placing), cheapest_road(one, other, prices))

    def test_ordinary(self):
        self.assertEqual([fewest_places([0, 1, 2]), fewest_places([2, 1, 0]), fewest_places([1, 0, 2])], [0, 1, 2])
        self.assertEqual([first_program([2, 1, 0]), first_program([0, 1, 2])], [[1], []])
        told = [how_many_programs([0, 1, 2]), how_many_programs([1, 0, 2]), how_many_programs([1, 0, 2, 3])]
        self.assertEqual(told, [1, 2, 4])

    def test_refused(self):
        for function in (fewest_places, first_program, how_many_programs):
            check_refusals(self, function, {"placing": [0, 1]}, {"placing": (InvalidList, NOT_PLACINGS)})


if __name__ == "__main__":
    unittest.main()
