"""Points 52 and 53: one deed, and one joint."""

import itertools
import random
import time
import unittest

from plain import NOT_JOINTS, NOT_MACHINES, books_over, check_refusals, drawn_machine, plain_class, plain_deed, plain_lets
from plain import words_up_to
from sideswaps.closures import beyond_one, firm_one, within_one
from sideswaps.errors import InvalidJoints, InvalidMachine, TooMany, Unlike
from sideswaps.machines import Machine, closed_joints, least_machine, led_out

EVEN = Machine("ax", [[1, 0], [0, 1]], [0])
STARTS = Machine("ax", [[1, 2], [1, 1], [2, 2]], [1])
SOME = Machine("ax", [[1, 0], [1, 1]], [1])
FIRM = Machine("ax", [[1, 2], [1, 0], [2, 2]], [1])
# Machines of which just so many states are due.
DUE = {
    ("within", 60): (Machine("abc", [[0, 2, 1], [2, 1, 1], [0, 1, 2]], [0]), "c"),
    ("within", 61): (Machine("abc", [[0, 2, 0], [1, 0, 2], [2, 1, 2]], [0]), "ac"),
    ("firm", 60): (Machine("abc", [[1, 2, 1], [2, 0, 0], [0, 1, 1]], [0, 2]), "abc"),
    ("firm", 61): (Machine("abc", [[1, 1, 2], [0, 2, 1], [1, 2, 2]], [1, 2]), "c"),
}
# Calls that could take long: the function, the machine, the joints, and how many states are due, 61 for more than 60.
LONG = [
    (within_one, Machine("abc", [[2, 2, 1], [0, 1, 2], [1, 0, 1]], [0]), "abc", 61),
    (within_one, Machine("abcd", [[0, 1, 2, 1], [2, 1, 1, 2], [1, 1, 2, 0]], [0, 2]), "ab", 61),
    (within_one, Machine("abcd", [[2, 1, 0, 2], [1, 2, 0, 1], [0, 0, 2, 2]], [0]), "abcd", 61),
    (within_one, Machine("abcd", [[1, 1, 2, 2], [1, 2, 1, 0], [1, 0, 2, 1]], [1]), "abcd", 34),
    (within_one, Machine("abc", [[1, 2, 0], [1, 1, 2], [2, 0, 1]], [0, 2]), "abc", 24),
    (firm_one, Machine("abc", [[2, 0, 2], [2, 2, 0], [0, 1, 1]], [0, 2]), "ab", 61),
    (firm_one, Machine("abcd", [[1, 2, 2, 0], [2, 0, 1, 2], [1, 1, 0, 0]], [0, 1]), "ab", 61),
    (firm_one, Machine("abc", [[0, 1, 2], [2, 0, 1], [1, 2, 2]], [1, 2]), "abc", 61),
]


def at_most_one_deed(word, joints):
    """A word and all words that one deed makes of it."""
    return [word] + [plain_deed(word, place) for place, letter in enumerate(word) if letter in joints]


def plain_within(machine, word, joints):
    return any(plain_lets(machine, made) for made in at_most_one_deed(word, joints))


def plain_firm(machine, word, joints):
    return all(plain_lets(machine, made) for made in at_most_one_deed(word, joints))


def plain_due(machine, joints, firm):
    """The moves and ends of the least machine that is due, told by guesses that are followed all at once.

    It is guessed to which state the part behind a joint will lead, and which joint this is; the part ahead of it is read
    from the state behind this joint on, and then the part behind it from the state 0 on, to the state that was guessed.
    """
    letters, moves = machine.letters(), machine.moves()
    let = [(state in machine.ends()) != firm for state in range(len(moves))]
    start = {("whole", 0)} | {("ahead", end, at, row[at]) for end, row in enumerate(moves)
                              for at, letter in enumerate(letters) if letter in joints}
    start = frozenset(start)
    order, rows = {start: 0}, []
    for held in iter_grown(order):
        row = []
        for at in range(len(letters)):
            made = {each[:-1] + (moves[each[-1]][at],) for each in held}
            made |= {("behind", each[1], 0) for each in held if each[0] == "ahead" and each[2] == at and let[each[-1]]}
            row.append(order.setdefault(frozenset(made), len(order)))
        rows.append(row)
    met = [any(each == ("whole", each[-1]) and let[each[-1]] or each == ("behind", each[-1], each[-1]) for each in held) != firm
           for held in order]
    return plain_least(rows, met)


def iter_grown(order):
    """The keys of a dict, in order, also those that come behind them meanwhile."""
    spot = 0
    while spot < len(order):
        for held in list(order)[spot:]:
            yield held
            spot += 1


def plain_least(rows, met):
    """The moves and ends of the least machine of a table, by parting states as long as letters lead them to unlike ones."""
    groups, many = [int(each) for each in met], 0
    while len(set(groups)) != many:
        many, keys = len(set(groups)), {}
        groups = [keys.setdefault((group, *[groups[made] for made in row]), len(keys)) for group, row in zip(groups, rows)]
    firsts = {}
    for state, group in enumerate(groups):
        firsts.setdefault(group, state)
    order = {groups[0]: 0}
    moves = []
    for group in iter_grown(order):
        moves.append([order.setdefault(groups[made], len(order)) for made in rows[firsts[group]]])
    return moves, [number for group, number in order.items() if met[firsts[group]]]


def drawn_cases(seed, many):
    """Machines of at most 3 states, with joints."""
    draw = random.Random(seed)
    for number in range(many):
        letters = draw.choice(["a", "ax", "ax", "abx"])
        yield drawn_machine(draw, letters, 1 + number % 3), draw.choice(books_over(letters + "z"))


class OneDeedTest(unittest.TestCase):
    def check(self, machine, joints, size):
        found = []
        for function, plain in ((within_one, plain_within), (firm_one, plain_firm)):
            try:
                made = function(machine, joints)
            except TooMany as error:
                self.assertEqual(error.value, 61)
                continue
            self.assertIsInstance(made, Machine)
            self.assertEqual([made.letters(), least_machine(made)], [machine.letters(), made])
            for word in words_up_to(machine.letters(), size):
                self.assertIs(plain_lets(made, word), plain(machine, word, joints), (word, joints))
            found.append(made)
        return found

    def test_against_words(self):
        for machine, joints in drawn_cases(1, 150):
            self.check(machine, joints, 7 if len(machine.letters()) < 3 else 5)

    def test_from_words_that_are_let(self):
        # At most one deed leads back, too.
        for machine, joints in drawn_cases(2, 40):
            led = {made for word in words_up_to(machine.letters(), 4) if plain_lets(machine, word)
                   for made in at_most_one_deed(word, joints)}
            for word in words_up_to(machine.letters(), 4):
                self.assertIs(word in led, plain_within(machine, word, joints))

    def test_ordinary(self):
        told = [within_one(STARTS, "x") == SOME, firm_one(STARTS, "x") == FIRM, within_one(STARTS, "ax") == SOME,
                firm_one(EVEN, "ax") == EVEN, within_one(STARTS, "") == STARTS, firm_one(STARTS, "z") == STARTS]
        self.assertEqual(told, [True] * 6)
        for function in (within_one, firm_one):
            self.assertEqual(function(Machine("a", [[0]], []), "a"), Machine("a", [[0]], []))
            self.assertEqual(function(Machine("wxyz", [[0] * 4], [0]), "wxyz"), Machine("wxyz", [[0] * 4], [0]))
            # More states, but only three of them unlike.
            more = Machine("ax", [[1, 2], [3, 1], [2, 2], [1, 3], [4, 0]], [1, 3])
            self.assertEqual(function(more, "x"), function(STARTS, "x"))

    def test_60_states_and_more(self):
        for (name, states), (machine, joints) in DUE.items():
            function = within_one if name == "within" else firm_one
            if states == 60:
                self.assertEqual(len(function(machine, joints).moves()), 60)
                self.check(machine, joints, 5)
            else:
                with self.assertRaises(TooMany) as caught:
                    function(machine, joints)
                self.assertEqual(caught.exception.value, 61)

    def check_due(self, function, machine, joints):
        """The machine, or TooMany, is what parts guessed and then put together tell; how many states are due."""
        moves, ends = plain_due(machine, joints, function == firm_one)
        if len(moves) > 60:
            with self.assertRaises(TooMany) as caught:
                function(machine, joints)
            self.assertEqual(caught.exception.value, 61)
        else:
            self.assertEqual(function(machine, joints), Machine(machine.letters(), moves, ends), (machine.moves(), joints))
        return len(moves)

    def test_calls_that_could_take_long(self):
        for function, machine, joints, states in LONG:
            self.assertEqual(min(self.check_due(function, machine, joints), 61), states)

    def test_just_60_and_61_among_many(self):
        # Far more begun words than states that are due.
        for function, moves, ends, joints, states in [
            (firm_one, [[2, 1, 1, 0], [1, 1, 2, 2], [1, 0, 1, 1]], [0, 1], "bc", 60),
            (within_one, [[2, 0, 2, 2], [0, 0, 0, 2], [0, 2, 1, 1]], [2], "abcd", 60),
            (within_one, [[2, 1, 2, 1], [1, 1, 0, 0], [1, 0, 0, 1]], [0], "abcd", 61),
            (firm_one, [[2, 1, 0, 2], [2, 2, 0, 1], [1, 1, 2, 2]], [0, 2], "abc", 61),
            (firm_one, [[0, 1, 0, 2], [1, 1, 1, 0], [2, 2, 0, 0]], [1, 2], "abc", 62),
        ]:
            self.assertEqual(self.check_due(function, Machine("abcd", moves, ends), joints), states)

    def test_against_parts_that_are_guessed(self):
        draw, found = random.Random(8), []
        for _ in range(250):
            letters = draw.choice(["a", "ab", "ab", "abc", "abcd"])
            machine, joints = drawn_machine(draw, letters, draw.choice([1, 2, 3, 3, 3])), draw.choice(books_over(letters + "z"))
            found.extend([self.check_due(function, machine, joints) for function in (within_one, firm_one)])
        self.assertTrue(any(states > 60 for states in found) and any(20 < states <= 60 for states in found))

    def test_long_rows_of_calls(self):
        # A bound far above the time that it does take, far below what looking at all states of all calls took.
        begun = time.process_time()
        for _ in range(30):
            for function, machine, joints, states in LONG:
                try:
                    self.assertEqual(len(function(machine, joints).moves()), states)
                except TooMany:
                    self.assertEqual(states, 61)
        self.assertLess(time.process_time() - begun, 2.5)

    def test_all_machines_of_two_states(self):
        # All of them with two letters, and those that let as many words the other way round.
        for moves in itertools.product(range(2), repeat=4):
            for ends in ([], [0], [1], [0, 1]):
                machine = Machine("ax", [list(moves[:2]), list(moves[2:])], ends)
                for joints in ("", "a", "x", "ax"):
                    self.assertEqual(len(self.check(machine, joints, 6)), 2)

    def test_four_letters(self):
        draw = random.Random(4)
        for number in range(12):
            self.check(drawn_machine(draw, "wxyz", 2 + number % 2), draw.choice(books_over("wxyz")), 4)

    def test_refused(self):
        wrong = {"machine": (InvalidMachine, NOT_MACHINES), "joints": (InvalidJoints, NOT_JOINTS)}
        for function, name in ((within_one, "within"), (firm_one, "firm")):
            check_refusals(self, function, {"machine": STARTS, "joints": "x"}, wrong)
            machine, joints = DUE[name, 61]
            check_refusals(self, function, {"machine": machine, "joints": joints}, wrong)


class BeyondOneTest(unittest.TestCase):
    def plain_beyond(self, one, other, joints, size):
        for word in words_up_to(one.letters(), size):
            if plain_lets(one, word) and not plain_within(other, word, joints):
                return word
        return None

    def check(self, one, other, joints, size):
        told = beyond_one(one, other, joints)
        if told is None or len(told) <= size:
            self.assertEqual(told, self.plain_beyond(one, other, joints, size), joints)
        else:
            self.assertTrue(plain_lets(one, told) and not plain_within(other, told, joints))
            self.assertIsNone(self.plain_beyond(one, other, joints, size))
        return told

    def test_against_words(self):
        draw, lengths = random.Random(5), set()
        for other, joints in drawn_cases(6, 150):
            one = drawn_machine(draw, other.letters(), draw.choice([1, 2, 5, 12]))
            told = self.check(one, other, joints, 6 if len(one.letters()) < 3 else 4)
            lengths.add(None if told is None else len(told))
        self.assertLessEqual({None, 0, 1, 2}, lengths)

    def test_against_within_one(self):
        for machine, joints in drawn_cases(7, 60):
            try:
                within = within_one(machine, joints)
            except TooMany:
                continue
            self.assertIsNone(beyond_one(within, machine, joints))
            self.assertIsNone(beyond_one(machine, machine, joints))
            all_but = [k for k in range(len(within.moves())) if k not in within.ends()]
            others = Machine(machine.letters(), within.moves(), all_but)
            firsts = [word for word in words_up_to(machine.letters(), 4) if not plain_lets(within, word)]
            told = beyond_one(others, machine, joints)
            self.assertTrue(not firsts or told == firsts[0])

    def test_ordinary(self):
        told = [beyond_one(SOME, STARTS, "x"), beyond_one(EVEN, STARTS, "x"), beyond_one(SOME, FIRM, "ax")]
        self.assertEqual(told, [None, "", "ax"])
        # More states are due here than a machine has, but none is told.
        for (_, states), (machine, joints) in DUE.items():
            if states == 61:
                self.assertIsNone(beyond_one(machine, machine, joints))

    def test_twelve_states(self):
        row = Machine("ax", [[k + 1, 11] for k in range(10)] + [[11, 10], [11, 11]], [10])
        self.assertEqual(beyond_one(row, Machine("ax", [[0, 0]], []), "x"), "a" * 10)
        self.assertEqual(beyond_one(row, Machine("ax", [[0, 1], [1, 1]], [0]), "x"), "a" * 10 + "x")
        self.assertIsNone(beyond_one(row, STARTS, "x"))

    def test_refused(self):
        wrong = {"one": (InvalidMachine, NOT_MACHINES), "other": (InvalidMachine, NOT_MACHINES),
                 "joints": (InvalidJoints, NOT_JOINTS)}
        check_refusals(self, beyond_one, {"one": SOME, "other": STARTS, "joints": "x"}, wrong)
        for letters in ("a", "x", "ay", "axy", "bx"):
            other = Machine(letters, [[0] * len(letters)], [0])
            check_refusals(self, beyond_one, {"one": SOME, "other": other, "joints": "x"},
                           {"other": (Unlike, [other])})
            check_refusals(self, beyond_one, {"one": SOME, "other": other, "joints": "x"},
                           {"joints": wrong["joints"]})
            check_refusals(self, beyond_one, {"one": SOME, "other": other, "joints": "x"}, {"one": wrong["one"]})


class OneJointTest(unittest.TestCase):
    def test_whatever_comes_comes_by_one_deed(self):
        for joint in ("a", "x"):
            for word in words_up_to("abx", 6)[::5]:
                self.assertEqual(set(plain_class(word, joint)), set(at_most_one_deed(word, joint)))

    def test_closed(self):
        for machine, _ in drawn_cases(9, 60):
            for joint in machine.letters():
                for function in (within_one, firm_one):
                    try:
                        made = function(machine, joint)
                        self.assertIsNone(led_out(made, joint))
                        self.assertIn(joint, closed_joints(made))
                    except TooMany:
                        pass

    def test_least_and_greatest(self):
        cases = [each for each, _ in drawn_cases(10, 40) if each.letters() == "ax"]
        words = words_up_to("ax", 6)
        closed = [each for each in cases if "x" in closed_joints(each)]
        self.assertGreater(len(closed), 3)
        for machine in cases:
            within, firm = within_one(machine, "x"), firm_one(machine, "x")
            let = {word for word in words if plain_lets(machine, word)}
            for each in closed:
                there = {word for word in words if plain_lets(each, word)}
                if let <= there and least_machine(each) == each and self.holds(machine, each):
                    self.assertTrue({word for word in words if plain_lets(within, word)} <= there)
                if there <= let and self.holds(each, machine):
                    self.assertTrue(there <= {word for word in words if plain_lets(firm, word)})

    def holds(self, one, other):
        """Whether every word that the one lets is let by the other one."""
        return beyond_one(one, other, "") is None

    def test_several_joints(self):
        # As many of both come of "xy" taken so often, which no number of states tells.
        twice = Machine("xy", [[1, 2], [2, 0], [2, 2]], [0])
        come = {made for size in range(4) for made in plain_class("xy" * size, "xy")}
        self.assertEqual(come, {word for word in words_up_to("xy", 6) if word.count("x") == word.count("y")})
        self.assertTrue(all(plain_lets(twice, "xy" * size) for size in range(4)))


if __name__ == "__main__":
    unittest.main()
