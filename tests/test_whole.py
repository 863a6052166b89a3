"""What holds over the whole program: a word, a train of this one word and a far word of its runs tell the same."""

import itertools
import random
import unittest

from plain import words_up_to
from sideswaps.blocks import jump_bars, jump_size, jumps_lead
from sideswaps.book import SwapBook
from sideswaps.books import least_books
from sideswaps.classes import bar, comes, first_word
from sideswaps.farroads import far_cheapest, far_lie, family_parting, family_price
from sideswaps.farwords import far_done, far_parting, far_swapped, far_word, letter_after, star_runs
from sideswaps.fewest import cheapest, fewest_deeds, lie_value, lies, lots
from sideswaps.jointnumbers import done_by_numbers, numbers_of
from sideswaps.jumproads import jump_fewest, least_widths
from sideswaps.lines import line_of, of_line
from sideswaps.oftens import done_often
from sideswaps.programs import done_by, fewest_places, joint_places
from sideswaps.rings import one_deed, star_ring
from sideswaps.roads import cheapest_road, first_deeds, is_cheapest_road
from sideswaps.sizes import class_size
from sideswaps.trainroads import first_train_deeds, lie_lots, lie_values, train_distance
from sideswaps.trains import how_many_trains, train_done, train_parting, train_ring
from sideswaps.words import done, is_road, open_places, swapped

FEES = [("x", 3), ("y", 5)]


def runs_in(word):
    """The far word of the runs of a word."""
    return [(letter, len(list(each))) for letter, each in itertools.groupby(word)]


def drawn_pairs(seed, many, size):
    """Words, with another one that mostly comes of them."""
    draw = random.Random(seed)
    for _ in range(many):
        word = "".join(draw.choice("axy") for _ in range(draw.randrange(size + 1)))
        other = word
        for _ in range(draw.randrange(5)):
            places = open_places(other, "xy")
            if places:
                other = swapped(other, "xy", draw.choice(places))
        yield word, draw.choice([other, other, "".join(draw.sample(word, len(word)))])


class WholeTest(unittest.TestCase):
    def test_what_comes_of_what(self):
        for one, other in drawn_pairs(1, 400, 8):
            told = comes(one, other, "xy")
            self.assertIs(train_parting([one], [other], "xy") is None, told)
            self.assertIs(far_parting(runs_in(one), runs_in(other), "xy") is None, told)
            self.assertIs(first_word(one, "xy") == first_word(other, "xy"), told)
            self.assertIs(jumps_lead(one, other, "xy", list(range(1, 10))), told)
            self.assertIs(jump_bars(one, other, "xy", list(range(1, 10))) is None, told)
            self.assertIs(any(set(book) <= set("xy") for book in least_books(one, other)), told)
            self.assertIs(least_widths(one, other, "xy") != [], told)
            self.assertIs(cheapest_road(one, other, FEES) is not None, told)
            self.assertEqual(star_ring(one, "xy"), train_ring([one], "xy"))
            self.assertEqual("".join(sign * times for sign, times in star_runs(runs_in(one), "xy")), star_ring(one, "xy"))

    def test_what_keeps_apart(self):
        for one in words_up_to("axy", 3):
            for other in words_up_to("axy", 3):
                told = bar(one, other, "xy")
                self.assertEqual(train_parting([one], [other], "xy"), told)
                far = far_parting(runs_in(one), runs_in(other), "xy")
                if told is not None and told[0] == "ring":
                    self.assertEqual(far, ("ring", runs_in(told[1]), runs_in(told[2])))
                else:
                    self.assertEqual(far, told)

    def test_lies_and_prices(self):
        for one, other in drawn_pairs(2, 300, 8):
            self.assertEqual(train_distance([one], [other], FEES), cheapest(one, other, FEES))
            far = far_cheapest(runs_in(one), runs_in(other), FEES)
            self.assertEqual(far and far[0], cheapest(one, other, FEES))
            if comes(one, other, "xy"):
                numbers = lies(one, other, "xy")
                values = [lie_value(one, other, FEES, lie) if lie in numbers else None for lie in range(len(one) + 1)]
                self.assertEqual(lie_values([one], [other], FEES), values)
                found = [far_lie(runs_in(one), runs_in(other), FEES, lie) for lie in range(len(one) + 1)]
                self.assertEqual([lie and lie[0] for lie in found], values)
                for lie in numbers:
                    self.assertEqual(lie_lots([one], [other], FEES, lie), lots(one, other, FEES, lie))
                    self.assertEqual(found[lie][2], lots(one, other, FEES, lie))
                places = [place for _, place, _ in first_train_deeds([one], [other], FEES)]
                self.assertEqual(places, first_deeds(one, other, FEES))
                one_price = far_cheapest(runs_in(one), runs_in(other), [("x", 1), ("y", 1)])
                self.assertEqual(one_price[0], fewest_deeds(one, other, "xy"))
                self.assertEqual(jump_fewest(one, other, "xy", list(range(1, 10))), fewest_deeds(one, other, "xy"))

    def test_sizes(self):
        for word, _ in drawn_pairs(3, 200, 8):
            self.assertEqual(jump_size(word, "xy", list(range(1, 10))), class_size(word, "xy"))
            self.assertEqual(how_many_trains([word], "xy"), class_size(word, "xy"))

    def test_deeds(self):
        draw = random.Random(4)
        for word, _ in drawn_pairs(5, 200, 7):
            road, made = [], word
            for _ in range(draw.randrange(5)):
                places = open_places(made, "xy")
                if places:
                    road.append(draw.choice(places))
                    made = swapped(made, "xy", road[-1])
            self.assertEqual([done(word, "xy", road), done_by(word, road)], [made, made])
            self.assertEqual(train_done([word], "xy", [(0, place, 0) for place in road]), [made])
            self.assertEqual(far_word(far_done(runs_in(word), "xy", road)), made)
            self.assertEqual(done_by_numbers(word, "xy", numbers_of(word, "xy", road)), made)
            if is_road(word, "xy", road):
                self.assertTrue(set(joint_places(len(word), road)) <= set(open_places(word, "xy")))
            for place in open_places(word, "xy"):
                self.assertEqual(far_word(far_swapped(runs_in(word), "xy", place)), swapped(word, "xy", place))
                self.assertIn(swapped(word, "xy", place), one_deed(word, "xy"))
                again = done_often(word, [place], 7)
                self.assertEqual("".join(letter_after(runs_in(word), place, 7, spot) for spot in range(len(word))), again)

    def test_placings(self):
        for size in range(6):
            for placing in itertools.permutations(range(size)):
                other = "".join("abcde"[place] for place in placing)
                self.assertEqual(fewest_places(list(placing)), fewest_deeds("abcde"[:size], other, "abcde"))

    def test_families_of_words(self):
        for one, other in drawn_pairs(6, 200, 5):
            first = [(letter, times, 0) for letter, times in runs_in(one)]
            second = [(letter, times, 0) for letter, times in runs_in(other)]
            parting = far_parting(runs_in(one), runs_in(other), "xy")
            self.assertEqual(family_parting(first, second, "xy"), None if parting is None else (0, parting))
            if parting is None:
                self.assertEqual(family_price(first, second, FEES), (0, cheapest(one, other, FEES), 0))

    def test_books(self):
        for one, other in drawn_pairs(7, 200, 7):
            book = SwapBook(FEES, one)
            self.assertEqual(book.cost_to(other), cheapest(one, other, FEES))
            steps = [("swap", place) for place in first_deeds(one, other, FEES) or []]
            self.assertEqual(book.cheap_steps(other), steps)
            if book.cost_to(other) is not None:
                while book.word() != other:
                    book.do(book.cheap_steps(other)[0])
                road = [step[1] for step in book.log()]
                self.assertIs(is_cheapest_road(one, other, FEES, road), True)
                self.assertEqual(road, cheapest_road(one, other, FEES))
                self.assertEqual([book.spent(), book.waste()], [cheapest(one, other, FEES), 0])
            self.assertEqual(of_line(line_of(book.prices(), book.word())), (book.prices(), book.word()))


if __name__ == "__main__":
    unittest.main()
