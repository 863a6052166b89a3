"""The helper module needs: begun words, told by numbers, against words written out (points 52 and 53)."""

import random
import unittest

from plain import books_over, drawn_machine, plain_lets, words_up_to
from sideswaps.machines import let_list
from sideswaps.needs import TRIED, Needs, Trial, table_within
from test_closures import plain_least, plain_within


def drawn_needs(draw, letters, states):
    """Any machine, joints, and the begun words of them."""
    machine, joints = drawn_machine(draw, letters, states), draw.choice(books_over(letters))
    return machine, joints, Needs(machine.moves(), let_list(machine), letters, joints)


def number_of(needs, letters, word):
    """The number of a begun word."""
    spot = 0
    for letter in word:
        spot = needs.row_of(spot)[letters.index(letter)]
    return spot


class NeedsTest(unittest.TestCase):
    def test_words(self):
        draw = random.Random(1)
        for number in range(60):
            letters = draw.choice(["a", "ab", "abc"])
            machine, joints, needs = drawn_needs(draw, letters, 1 + number % 4)
            for word in words_up_to(letters, 5):
                spot = number_of(needs, letters, word)
                self.assertIs(needs.is_within(spot), plain_within(machine, word, joints), (machine.moves(), joints, word))

    def test_one_number_only_if_the_same_may_come(self):
        draw = random.Random(2)
        for number in range(30):
            machine, joints, needs = drawn_needs(draw, "ab", 1 + number % 3)
            told = {}
            for word in words_up_to("ab", 5):
                met = [plain_within(machine, word + end, joints) for end in words_up_to("ab", 4)]
                self.assertEqual(told.setdefault(number_of(needs, "ab", word), met), met)

    def test_what_few_letters_tell_apart(self):
        draw = random.Random(3)
        for number in range(40):
            letters = draw.choice(["a", "ab", "abc"])
            machine, joints, needs = drawn_needs(draw, letters, 1 + number % 3)
            words, trial = words_up_to(letters, 4), Trial(needs, letters)
            ends = words_up_to(letters, TRIED)
            plain = set()
            for word in words:
                plain.add(tuple(plain_within(machine, word + end, joints) for end in ends))
                # What was asked for before is kept.
                told = trial.told_apart([needs.order[number_of(needs, letters, word)]])
                self.assertEqual(told, len(plain), (machine.moves(), joints, word))

    def test_table_or_none(self):
        draw, found = random.Random(4), set()
        for number in range(120):
            machine, joints = drawn_machine(draw, "abc", 2 + number % 2), draw.choice(["ab", "abc", "c"])
            whole = table_within(machine.moves(), let_list(machine), "abc", joints, 10 ** 6)
            for most in (1, 5, 60):
                table = table_within(machine.moves(), let_list(machine), "abc", joints, most)
                found.add(table is None)
                if table is None:
                    self.assertGreater(len(whole[0]), most)
                else:
                    self.assertEqual(table, whole)
            self.assertEqual(whole[1][0], plain_lets(machine, ""))
            # As many as are due are never too many, however many begun words are looked at.
            due = len(plain_least(*whole)[0])
            self.assertEqual(table_within(machine.moves(), let_list(machine), "abc", joints, due), whole)
        self.assertEqual(found, {True, False})


if __name__ == "__main__":
    unittest.main()
