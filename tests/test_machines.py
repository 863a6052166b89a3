"""Points 48 to 51: sets of words told by machines."""

import copy
import itertools
import random
import unittest

from plain import NOT_COUNTS, NOT_JOINTS, NOT_LISTS, NOT_MACHINES, NOT_WORDS, books_over, check_refusals, drawn_machine
from plain import plain_class, plain_deed, plain_lets, words_over, words_up_to
from sideswaps.errors import InvalidJoints, InvalidList, InvalidMachine, InvalidNumber, InvalidWord, TooMany
from sideswaps.machines import Machine, closed_joints, first_barred, first_let, how_many_let, least_machine, led_out, lets
from sideswaps.machines import road_into
from sideswaps.rings import star_ring
from sideswaps.sizes import class_size

EVEN = Machine("ax", [[1, 0], [0, 1]], [0])
STARTS = Machine("ax", [[1, 2], [1, 1], [2, 2]], [1])
# Machines whose states words lead in just so many ways.
WAYS_600 = Machine("abc", [[3, 0, 2], [2, 4, 2], [2, 3, 4], [5, 0, 1], [0, 0, 4], [0, 2, 1]], [2, 5])
WAYS_601 = Machine("ab", [[3, 5], [5, 4], [5, 3], [4, 5], [1, 4], [3, 2]], [2, 4])


def plain_ways(machine):
    """How many unlike ways words lead all states of a machine."""
    found = {tuple(range(len(machine.moves())))}
    fresh = list(found)
    while fresh:
        made = {tuple(row[at] for row in (machine.moves()[state] for state in way))
                for way in fresh for at in range(len(machine.letters()))}
        fresh = list(made - found)
        found |= made
    return len(found)


class MachineTest(unittest.TestCase):
    def test_kept_as_given(self):
        for letters, moves, ends in [("a", [[0]], []), ("a", [[0]], [0]), ("ax", [[1, 0], [0, 1]], [0, 1]),
                                     ("wxyz", [[k, 0, 59, 59 - k] for k in range(60)], list(range(60)))]:
            machine = Machine(letters, moves, ends)
            self.assertEqual([machine.letters(), machine.moves(), machine.ends()], [letters, moves, ends])
            self.assertEqual(machine, Machine(letters=letters, moves=copy.deepcopy(moves), ends=list(ends)))

    def test_told_lists_are_new(self):
        moves, ends = [[1, 0], [0, 1]], [0]
        machine = Machine("ax", moves, ends)
        moves[0][0], moves[1] = 0, None
        moves.append(1)
        ends.append(1)
        for _ in range(2):
            self.assertEqual([machine.moves(), machine.ends()], [[[1, 0], [0, 1]], [0]])
            machine.moves()[0][0] = 7
            machine.moves().append([])
            told = machine.moves()
            told[1].append(3)
            told.pop()
            machine.ends().append(1)
        self.assertEqual(machine, EVEN)

    def test_equal(self):
        self.assertTrue(EVEN == Machine("ax", [[1, 0], [0, 1]], [0]))
        self.assertFalse(EVEN != Machine("ax", [[1, 0], [0, 1]], [0]))
        for other in [Machine("ay", [[1, 0], [0, 1]], [0]), Machine("ax", [[1, 0], [1, 1]], [0]),
                      Machine("ax", [[1, 0], [0, 1]], [1]), Machine("ax", [[1, 0], [0, 1]], []), STARTS]:
            self.assertFalse(EVEN == other)
            self.assertTrue(EVEN != other)
        for other in NOT_MACHINES + ["machine"]:
            self.assertFalse(EVEN == other)

    def test_refused(self):
        good = {"letters": "ax", "moves": [[1, 0], [0, 1]], "ends": [0]}
        not_moves = NOT_LISTS + [
            [], [[0, 0]] * 61, [[0, 0], [0]], [[0, 0], [0, 0, 0]], [[2, 0], [0, 0]], [[-1, 0], [0, 0]], [[True, 0], [0, 0]],
            [["0", 0], [0, 0]], [(0, 0), (0, 0)], [[0, 0], None], [[None, 0]], [0, 0], [[[0], 0]],
        ]
        not_ends = NOT_LISTS + [[2], [-1], [0, 0], [1, 0], [True], [False], ["0"], [None], [[0]], [0, 1, 1], (0,)]
        wrong = {"letters": (InvalidJoints, NOT_JOINTS + ["", "abcde"]), "moves": (InvalidList, not_moves),
                 "ends": (InvalidList, not_ends)}
        check_refusals(self, Machine, good, wrong)

    def test_lets(self):
        draw = random.Random(1)
        for letters in ("a", "ax", "abx", "wxyz"):
            for states in (1, 2, 5, 60):
                machine = drawn_machine(draw, letters, states)
                for word in words_up_to(letters, 4) + ["b", "ab", "za", "axaxaxb"]:
                    self.assertIs(lets(machine, word), plain_lets(machine, word))
        self.assertEqual([lets(EVEN, "axa"), lets(STARTS, "xa"), lets(STARTS, "ab")], [True, False, False])
        self.assertIs(lets(EVEN, "a" * 300), True)
        check_refusals(self, lets, {"machine": EVEN, "word": "ax"},
                       {"machine": (InvalidMachine, NOT_MACHINES), "word": (InvalidWord, NOT_WORDS)})


class LeastMachineTest(unittest.TestCase):
    def behaviours(self, machine, size):
        """The unlike sets of words that are let from the states to which words lead, in the order of these words."""
        words = words_up_to(machine.letters(), size)
        found = {}
        for word in words:
            key = tuple(plain_lets(machine, word + more) for more in words)
            found.setdefault(key, word)
        return found

    def test_against_words(self):
        draw = random.Random(3)
        for number in range(80):
            machine = drawn_machine(draw, draw.choice(["a", "ax"]), 1 + number % 4)
            least = least_machine(machine)
            self.assertEqual(least.letters(), machine.letters())
            found = self.behaviours(machine, 4)
            self.assertEqual(len(least.moves()), len(found))
            # The states are numbered by the first words that lead to them.
            for state, (key, word) in enumerate(found.items()):
                here = 0
                for letter in word:
                    here = least.moves()[here][machine.letters().index(letter)]
                self.assertEqual(here, state)
            for word in words_up_to(machine.letters(), 6):
                self.assertIs(plain_lets(least, word), plain_lets(machine, word))
            self.assertEqual(least_machine(least), least)

    def test_equal_exactly_if_the_same_words(self):
        draw = random.Random(4)
        machines = [drawn_machine(draw, "ax", 2) for _ in range(40)]
        words = words_up_to("ax", 4)
        for one, other in itertools.combinations(machines, 2):
            same = all(plain_lets(one, word) == plain_lets(other, word) for word in words)
            self.assertIs(least_machine(one) == least_machine(other), same)

    def test_ordinary(self):
        self.assertEqual(least_machine(Machine("ax", [[2, 1], [1, 1], [2, 2]], [2])), STARTS)
        self.assertEqual(least_machine(Machine("ax", [[0, 0], [1, 1]], [1])), Machine("ax", [[0, 0]], []))
        for states in (1, 2, 60):
            # A round of so many states, and one of which all are alike.
            moves = [[(k + 1) % states] for k in range(states)]
            self.assertEqual(least_machine(Machine("a", moves, [0])), Machine("a", moves, [0]))
            self.assertEqual(least_machine(Machine("a", moves, list(range(states)))), Machine("a", [[0]], [0]))
        moves = [[(k + 1) % 60, (k + 59) % 60, k, 0] for k in range(60)]
        self.assertEqual(len(least_machine(Machine("wxyz", moves, [59])).moves()), 60)
        self.assertEqual(len(least_machine(Machine("wxyz", moves, list(range(0, 60, 2)))).moves()), 2)
        check_refusals(self, least_machine, {"machine": EVEN}, {"machine": (InvalidMachine, NOT_MACHINES)})


class LedOutTest(unittest.TestCase):
    def plain_led_out(self, machine, joints, size):
        for word in words_up_to(machine.letters(), size):
            if plain_lets(machine, word):
                for place, letter in enumerate(word):
                    if letter in joints and not plain_lets(machine, plain_deed(word, place)):
                        return (word, place)
        return None

    def test_against_words(self):
        draw = random.Random(5)
        for number in range(150):
            letters = draw.choice(["a", "ax", "ax", "abx"])
            machine = drawn_machine(draw, letters, 1 + number % 4)
            size = 8 if len(letters) < 3 else 5
            for joints in books_over(letters):
                told = led_out(machine, joints)
                if told is None or len(told[0]) <= size:
                    self.assertEqual(told, self.plain_led_out(machine, joints, size))
                else:
                    self.assertTrue(plain_lets(machine, told[0]))
                    self.assertFalse(plain_lets(machine, plain_deed(*told)))
                    self.assertIsNone(self.plain_led_out(machine, joints, size))
                closed = all(letter in closed_joints(machine) for letter in joints)
                self.assertIs(told is None, closed)

    def test_closed_machines(self):
        # Both numbers of letters counted up to some number; and two bodies side by side, which no deed parts.
        numbers = Machine("xy", [[(k + 1) % 3 + k // 3 * 3, (k + 3) % 6] for k in range(6)], [1, 5])
        beside = Machine("bx", [[1, 0], [2, 0], [2, 2]], [2])
        for machine, joints in ((EVEN, "ax"), (numbers, "xy"), (beside, "x"), (STARTS, "")):
            self.assertEqual(closed_joints(machine), joints)
            self.assertIsNone(led_out(machine, joints))
            told = {}
            for word in words_up_to(machine.letters(), 6):
                key = (star_ring(word, joints), tuple(word.count(letter) for letter in joints))
                self.assertIs(told.setdefault(key, lets(machine, word)), lets(machine, word))
        self.assertEqual(led_out(beside, "bx"), ("bbx", 0))
        self.assertEqual([lets(beside, "bbx"), lets(beside, "bxb")], [True, False])

    def test_ordinary(self):
        told = [led_out(EVEN, "ax"), led_out(STARTS, "x"), led_out(STARTS, "a"), led_out(STARTS, "z"), led_out(STARTS, "")]
        self.assertEqual(told, [None, ("ax", 1), ("ax", 0), None, None])
        self.assertEqual(led_out(STARTS, "abcxyz"), ("ax", 0))
        self.assertEqual([led_out(Machine("a", [[0]], []), "a"), closed_joints(Machine("wxyz", [[0] * 4], [0]))], [None, "wxyz"])

    def test_600_ways_and_more(self):
        self.assertEqual([plain_ways(WAYS_600), plain_ways(WAYS_601)], [600, 601])
        for machine in (WAYS_600, WAYS_601):
            self.assertEqual(len(least_machine(machine).moves()), 6)
        self.assertEqual(led_out(WAYS_600, "abc"), self.plain_led_out(WAYS_600, "abc", 4))
        self.assertEqual(closed_joints(WAYS_600), "")
        # Six states in all orders are 720 ways; the closed one is refused, too, as are no joints at all.
        orders = Machine("ab", [[1, 1], [2, 0], [3, 2], [4, 3], [5, 4], [0, 5]], [0])
        for machine in (WAYS_601, orders):
            for joints in ("", "a", "ab", "z"):
                with self.assertRaises(TooMany) as caught:
                    led_out(machine, joints)
                self.assertEqual(caught.exception.value, 601)
            with self.assertRaises(TooMany) as caught:
                closed_joints(machine)
            self.assertEqual(caught.exception.value, 601)
        # The states of the least machine count: one is enough for the same table with all states as ends.
        self.assertIsNone(led_out(Machine("ab", orders.moves(), list(range(6))), "ab"))

    def test_twelve_states(self):
        round_of_12 = Machine("wxyz", [[(k + 1) % 12, (k + 5) % 12, k, (k + 7) % 12] for k in range(12)], [0, 1, 5])
        self.assertEqual([closed_joints(round_of_12), led_out(round_of_12, "wxyz")], ["wxyz", None])
        last = Machine("ax", [[min(k + 1, 10), 11] for k in range(11)] + [[11, 11]], [10])
        self.assertEqual(closed_joints(last), "ax")
        self.assertIsNone(led_out(last, "ax"))
        row = Machine("ax", [[k + 1, 11] for k in range(10)] + [[11, 10], [11, 11]], [10])
        self.assertEqual(led_out(row, "ax"), ("a" * 10 + "x", 0))

    def test_refused(self):
        wrong = {"machine": (InvalidMachine, NOT_MACHINES), "joints": (InvalidJoints, NOT_JOINTS)}
        for machine in (EVEN, WAYS_601):
            check_refusals(self, led_out, {"machine": machine, "joints": "x"}, wrong)
            check_refusals(self, closed_joints, {"machine": machine}, {"machine": wrong["machine"]})


class ClassTest(unittest.TestCase):
    def test_against_deeds(self):
        draw = random.Random(6)
        for number in range(40):
            letters = draw.choice(["a", "ax", "axy"])
            machine = drawn_machine(draw, letters, 1 + number % 5)
            for word in draw.sample(words_up_to(letters, 5), 5):
                for joints in ("", letters, letters[1:], letters[-1] + "z"):
                    members = plain_class(word, joints)
                    let = [each for each in members if plain_lets(machine, each)]
                    barred = [each for each in members if not plain_lets(machine, each)]
                    self.assertEqual(how_many_let(machine, word, joints), len(let), (word, joints))
                    self.assertEqual(first_let(machine, word, joints), min(let, default=None))
                    self.assertEqual(first_barred(machine, word, joints), min(barred, default=None))

    def test_ordinary(self):
        told = [how_many_let(STARTS, "xaax", "x"), first_let(STARTS, "xaax", "x"), first_barred(STARTS, "xaax", "x"),
                first_let(STARTS, "xx", "x")]
        self.assertEqual(told, [1, "aaxx", "xaax", None])
        self.assertEqual([how_many_let(EVEN, "", "x"), first_let(EVEN, "", "x"), first_barred(EVEN, "", "x")], [1, "", None])
        self.assertEqual([how_many_let(EVEN, "aaxx", "ax"), first_barred(EVEN, "aaxx", "ax")], [6, None])
        self.assertEqual([how_many_let(EVEN, "axx", "ax"), first_let(EVEN, "axx", "ax")], [0, None])

    def test_few_of_some_joints(self):
        draw = random.Random(11)
        for word in ("wwwwxy", "xxwxxy", "yyywyx", "wxyz", "zzzwxy", "wwxyzz", "awxaya"):
            for _ in range(6):
                machine = drawn_machine(draw, "awxy" if "a" in word else "wxyz", 4)
                let = [each for each in plain_class(word, "wxyz") if plain_lets(machine, each)]
                self.assertEqual(how_many_let(machine, word, "wxyz"), len(let))
                self.assertEqual(first_let(machine, word, "wxyz"), min(let, default=None))

    def test_24_letters(self):
        draw = random.Random(7)
        everything = Machine("wxyz", [[0, 0, 0, 0]], [0])
        words = ["wxyz" * 6, "xyz" * 7 + "www", "xwyzxyzwxyzxyzwxyzxyzxyz", "wx" * 12, "w" * 24, "wwwwwwwwwwwwwwwwwwwwwwwx"]
        for word in words:
            for joints in ("wxyz", "xyz", "w", ""):
                size = class_size(word, joints)
                self.assertEqual(how_many_let(everything, word, joints), size)
                self.assertIsNone(first_barred(everything, word, joints))
                machine = drawn_machine(draw, "wxyz", 12)
                other = Machine("wxyz", machine.moves(), [k for k in range(12) if k not in machine.ends()])
                self.assertEqual(how_many_let(machine, word, joints) + how_many_let(other, word, joints), size)
                self.assertEqual(first_let(machine, word, joints), first_barred(other, word, joints))
                first = min([each for each in (first_let(machine, word, joints), first_let(other, word, joints)) if each])
                self.assertEqual(first, first_let(everything, word, joints))
        # With all letters joints and as many ends as remainders: a closed machine lets all of a class or none.
        self.assertIn(how_many_let(EVEN, "ax" * 12, "ax"), (0, class_size("ax" * 12, "ax")))
        # Words that begin with a told letter: as many as the class with this letter fixed there.
        begins = Machine("wxyz", [[1, 2, 2, 2], [1, 1, 1, 1], [2, 2, 2, 2]], [1])
        self.assertEqual(how_many_let(begins, "wxyz" * 6, "wxyz") * 4, class_size("wxyz" * 6, "wxyz"))
        self.assertEqual(first_let(begins, "zyxw" * 6, "wxyz"), "w" * 6 + "x" * 6 + "y" * 6 + "z" * 6)
        self.assertEqual(first_barred(begins, "zyxw" * 6, "wxyz"), "xwwwwwwxxxxxyyyyyyzzzzzz")

    def test_refused(self):
        over = NOT_WORDS + ["b", "axb", "z"]
        wrong = {"machine": (InvalidMachine, NOT_MACHINES), "word": (InvalidWord, over), "joints": (InvalidJoints, NOT_JOINTS)}
        for function in (how_many_let, first_let, first_barred):
            check_refusals(self, function, {"machine": STARTS, "word": "xaax", "joints": "x"}, wrong)
        wrong["most"] = (InvalidNumber, NOT_COUNTS + [4, 5, 10 ** 30 - 1])
        check_refusals(self, road_into, {"machine": STARTS, "word": "xaax", "joints": "x", "most": 3}, wrong)
        # The number is refused also where no road is needed.
        check_refusals(self, road_into, {"machine": STARTS, "word": "a", "joints": "x", "most": 0}, wrong)


class RoadIntoTest(unittest.TestCase):
    def plain_road_into(self, machine, word, joints, most):
        for size in range(most + 1):
            for road in itertools.product(range(len(word)), repeat=size):
                made = word
                for place in road:
                    made = plain_deed(made, place) if made is not None and made[place] in joints else None
                if made is not None and plain_lets(machine, made):
                    return list(road)
        return None

    def test_against_deeds(self):
        draw = random.Random(8)
        lengths = set()
        for number in range(60):
            letters = draw.choice(["ax", "axy"])
            machine = drawn_machine(draw, letters, 2 + number % 4)
            only = draw.choice(words_over(letters, 4))
            chain = Machine(letters, [[k + 1 if k < 4 and letter == only[k] else 5 for letter in letters] for k in range(6)], [4])
            for word in draw.sample(words_over(letters, 4), 5):
                for joints in books_over(letters)[1:]:
                    for most in range(4):
                        for each in (machine, chain):
                            told = road_into(each, word, joints, most)
                            self.assertEqual(told, self.plain_road_into(each, word, joints, most))
                            lengths.add(None if told is None else len(told))
        self.assertEqual(lengths, {None, 0, 1, 2, 3})

    def test_ordinary(self):
        self.assertEqual([road_into(STARTS, "xaax", "x", 3), road_into(STARTS, "axxx", "x", 0)], [[0], []])
        self.assertEqual([road_into(STARTS, "xaax", "x", 0), road_into(STARTS, "xaax", "", 3)], [None, None])

    def test_24_letters(self):
        nothing = Machine("wxyz", [[0, 0, 0, 0]], [])
        self.assertIsNone(road_into(nothing, "wxyz" * 6, "wxyz", 3))
        self.assertIsNone(road_into(nothing, "wxyyzwzxwyzxwwzyxzzwyxxy", "wxyz", 3))
        self.assertEqual(road_into(STARTS, "x" * 23 + "a", "x", 3), [22])


if __name__ == "__main__":
    unittest.main()
