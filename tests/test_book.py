"""Points 77 to 79: a live book."""

import copy
import random
import unittest

from plain import NOT_PRICES, NOT_WORDS, check_refusals, plain_cheapest_roads, plain_deed, plain_far
from sideswaps.book import SwapBook, is_step
from sideswaps.errors import InvalidDeed, InvalidPrices, InvalidWord, NothingToRedo, NothingToUndo
from sideswaps.fewest import cheapest
from sideswaps.lines import line_of
from sideswaps.roads import first_deeds
from sideswaps.words import price_of, swapped

FEES = [("x", 3), ("y", 1)]
ALPHABET = "abcdefghijklmnopqrstuvwxyz"
# What is no step in a book of FEES and "axbyc".
NOT_STEPS = [
    None, True, 1, "swap", ["swap", 1], (), ("swap",), ("swap", 0), ("swap", 5), ("swap", -1), ("swap", True),
    ("swap", "1"), ("swap", 1, 1), ("swap", None), ("price", "x"), ("price", "x", 0), ("price", "x", True),
    ("price", "x", -1), ("price", "x", "1"), ("price", "X", 1), ("price", "xy", 1), ("price", "", 1), ("price", 1, "x"),
    ("price", "x", 1, 1), ("body", "a"), ("body", "z"), ("body", ""), ("body", "xy"), ("body", 1), ("body", "x", 1),
    ("body",), ("Swap", 1), ("undo",), ("undo", 1), (1, "swap"), (["swap"], 1), ("body", ["x"]), ("swap", [1]), {"swap": 1},
]


class PlainBook:
    """A plain record of what was done: all is told anew from the first prices, the first word and the steps."""

    def __init__(self, prices, word):
        self.first = (dict(prices), word)
        self.steps = []
        self.undone = []

    def told(self):
        """The prices, the word, what is spent, and the word, the deeds and the prices since the last other step."""
        prices, word = dict(self.first[0]), self.first[1]
        spent, begun, paid = 0, word, 0
        for step in self.steps:
            if step[0] == "swap":
                spent += prices[word[step[1]]]
                paid += prices[word[step[1]]]
                word = plain_deed(word, step[1])
            else:
                if step[0] == "price":
                    prices[step[1]] = step[2]
                else:
                    del prices[step[1]]
                begun, paid = word, 0
        return sorted(prices.items()), word, spent, begun, paid

    def do(self, step):
        self.steps.append(step)
        self.undone = []

    def undo(self):
        self.undone.append(self.steps.pop())

    def redo(self):
        self.steps.append(self.undone.pop())

    def copied(self):
        return copy.deepcopy(self)


def drawn_step(draw, prices, word):
    """Any step that can be done, mostly a deed."""
    places = [place for place, letter in enumerate(word) if letter in dict(prices)]
    kind = draw.random()
    if kind < 0.7 and places:
        return ("swap", draw.choice(places))
    if kind < 0.85 and prices:
        return ("body", draw.choice(prices)[0])
    return ("price", draw.choice("axyz"), draw.randrange(1, 7))


class BookTest(unittest.TestCase):
    def check_same(self, book, plain):
        prices, word, spent, begun, paid = plain.told()
        self.assertEqual([book.prices(), book.word(), book.spent(), book.log()], [prices, word, spent, plain.steps])
        self.assertEqual(book.waste(), paid - plain_far(begun, prices)[word])

    def do_any(self, draw, book, plain):
        """Any step, back, on or anew, in a book and in a plain record; whether it was refused."""
        kind = draw.random()
        if kind < 0.2:
            if not plain.steps:
                self.assertRaises(NothingToUndo, book.undo)
                return True
            self.assertIsNone(book.undo())
            plain.undo()
        elif kind < 0.4:
            if not plain.undone:
                self.assertRaises(NothingToRedo, book.redo)
                return True
            self.assertIsNone(book.redo())
            plain.redo()
        elif kind < 0.5:
            self.assertRaises(InvalidDeed, book.do, draw.choice([("swap", 99), ("body", "q"), None, ("price", "x", 0)]))
            return True
        else:
            step = drawn_step(draw, book.prices(), book.word())
            self.assertIs(is_step(book, step), True)
            self.assertIsNone(book.do(step))
            plain.do(step)
        return False

    def test_against_a_plain_record(self):
        for seed in range(40):
            draw = random.Random(seed)
            word = "".join(draw.choice("abxy") for _ in range(draw.randrange(7)))
            books = [(SwapBook(FEES, word), PlainBook(FEES, word))]
            refused = 0
            for _ in range(60):
                book, plain = draw.choice(books)
                refused += self.do_any(draw, book, plain)
                if draw.random() < 0.1:
                    books.append((book.copy(), plain.copied()))
                for each in books:
                    self.check_same(*each)
            self.assertGreater(refused, 0)
            for one, first in books:
                for other, second in books:
                    alike = first.told()[:2] == second.told()[:2] and first.steps == second.steps
                    self.assertIs(one == other, alike)

    def test_ordinary(self):
        book = SwapBook([("x", 3), ("y", 1)], "axbyc")
        book.do(("swap", 1))
        book.do(("swap", 1))
        told = [book.word(), book.spent(), book.waste(), book.cost_to("axbyc"), book.cheap_steps("axbyc"),
                is_step(book, ("swap", 0))]
        self.assertEqual(told, ["cxayb", 4, 0, 4, [("swap", 3)], False])
        book.do(("body", "x"))
        told = [book.prices(), book.cost_to("axbyc"), book.waste(), book.log()]
        self.assertEqual(told, [[("y", 1)], None, 0, [("swap", 1), ("swap", 1), ("body", "x")]])
        book.undo()
        book.undo()
        told = [book.word(), book.spent(), book.prices(), book == SwapBook([("x", 3), ("y", 1)], "bycxa")]
        self.assertEqual(told, ["bycxa", 3, [("x", 3), ("y", 1)], False])

    def test_steps(self):
        book = SwapBook(FEES, "axbyc")
        for step in [("swap", 1), ("swap", 3), ("price", "x", 1), ("price", "x", 3), ("price", "a", 10 ** 30 - 1),
                     ("price", "z", 1), ("body", "x"), ("body", "y")]:
            self.assertIs(is_step(book, step), True, step)
        for step in NOT_STEPS:
            self.assertIs(is_step(book, step), False, step)
        # A price that is what it was is a step, too; a joint that stands in no word can be made a body.
        book.do(("price", "x", 3))
        book.do(("price", "z", 2))
        book.do(("body", "z"))
        self.assertEqual([book.prices(), book.log()], [FEES, [("price", "x", 3), ("price", "z", 2), ("body", "z")]])

    def test_a_refused_step_changes_nothing(self):
        book = SwapBook(FEES, "axbyc")
        book.do(("swap", 1))
        book.do(("price", "b", 7))
        book.undo()
        for step in NOT_STEPS + [("swap", 0), ("swap", 2)]:
            with self.assertRaises(InvalidDeed) as caught:
                book.do(step)
            self.assertIs(caught.exception.value, step)
        for wrong in NOT_WORDS:
            for ask in (book.cost_to, book.cheap_steps):
                with self.assertRaises(InvalidWord) as caught:
                    ask(wrong)
                self.assertIs(caught.exception.value, wrong)
        self.assertEqual([book.word(), book.prices(), book.log(), book.spent()], ["bycxa", FEES, [("swap", 1)], 3])
        # What was undone is not forgotten.
        book.redo()
        self.assertEqual([book.prices(), len(book.log())], [[("b", 7)] + FEES, 2])
        with self.assertRaises(NothingToRedo):
            book.redo()

    def test_undone_and_done_again_by_turns(self):
        book = SwapBook(FEES, "axbyc")
        with self.assertRaises(NothingToUndo):
            book.undo()
        with self.assertRaises(NothingToRedo):
            book.redo()
        steps = [("swap", 1), ("price", "c", 2), ("swap", 2), ("body", "y"), ("swap", 0)]
        words = [book.word()]
        for step in steps:
            if not is_step(book, step):
                step = ("swap", [k for k, letter in enumerate(book.word()) if letter in dict(book.prices())][0])
            book.do(step)
            words.append(book.word())
        done = book.log()
        for _ in range(3):
            for word in words[-2::-1]:
                book.undo()
                self.assertEqual(book.word(), word)
            self.assertEqual([book.log(), book.spent(), book.prices()], [[], 0, FEES])
            self.assertRaises(NothingToUndo, book.undo)
            for word in words[1:]:
                book.redo()
                self.assertEqual(book.word(), word)
            self.assertEqual(book.log(), done)
            self.assertRaises(NothingToRedo, book.redo)
        book.undo()
        book.do(("price", "a", 4))
        self.assertRaises(NothingToRedo, book.redo)

    def test_copies(self):
        book = SwapBook(FEES, "axbyc")
        book.do(("swap", 1))
        book.do(("swap", 1))
        book.undo()
        made = book.copy()
        self.assertEqual([made == book, made.log(), isinstance(made, SwapBook)], [True, [("swap", 1)], True])
        made.redo()
        self.assertEqual([made == book, made.word(), book.word()], [False, "cxayb", "bycxa"])
        book.undo()
        self.assertEqual([made.log(), book.log()], [[("swap", 1), ("swap", 1)], []])
        made.undo()
        made.undo()
        self.assertEqual([made == book, made.word()], [True, "axbyc"])
        book.redo()
        book.redo()
        self.assertEqual([book.word(), made.word()], ["cxayb", "axbyc"])

    def test_equal(self):
        one, other = SwapBook(FEES, "axbyc"), SwapBook(list(FEES), "axbyc")
        self.assertTrue(one == other)
        for wrong in (None, 1, "axbyc", (FEES, "axbyc"), [FEES, "axbyc"]):
            self.assertFalse(one == wrong)
        # The same prices and word, but another log; what was undone does not matter.
        one.do(("price", "x", 3))
        self.assertEqual([one == other, one.prices() == other.prices()], [False, True])
        one.undo()
        self.assertTrue(one == other)
        self.assertEqual([SwapBook([], "a") == SwapBook([], "b"), SwapBook([("a", 1)], "") == SwapBook([("a", 2)], "")],
                         [False, False])

    def test_lists_may_be_changed(self):
        prices = [("x", 3), ("y", 1)]
        book = SwapBook(prices, "axbyc")
        prices.append(("z", 1))
        prices[0] = ("x", 9)
        self.assertEqual(book.prices(), FEES)
        book.do(("swap", 1))
        for told in (book.prices(), book.log()):
            told.append("changed")
        self.assertEqual([book.prices(), book.log(), book.prices() is book.prices()], [FEES, [("swap", 1)], False])
        self.assertIsNot(book.log(), book.log())
        kept = book.copy()
        kept.prices().clear()
        kept.log().clear()
        self.assertTrue(kept == book)

    def test_costs(self):
        draw = random.Random(7)
        for _ in range(60):
            word = "".join(draw.choice("axy") for _ in range(6))
            book = SwapBook([("x", draw.randrange(1, 5)), ("y", draw.randrange(1, 5))], word)
            for _ in range(draw.randrange(4)):
                book.do(drawn_step(draw, book.prices(), book.word()))
            far = plain_far(book.word(), book.prices())
            for other in ["".join(draw.sample(word, 6)), draw.choice(sorted(far)), book.word(), "ax"]:
                self.assertEqual(book.cost_to(other), far.get(other))
                firsts = sorted({road[0] for road in plain_cheapest_roads(book.word(), other, book.prices()) if road})
                self.assertEqual(book.cheap_steps(other), [("swap", place) for place in firsts])

    def test_waste_is_told_since_the_last_other_step(self):
        book = SwapBook(FEES, "axbyc")
        for step in [("swap", 1), ("swap", 3)]:
            book.do(step)
        self.assertEqual([book.word(), book.spent(), book.waste()], ["axbyc", 6, 6])
        book.do(("price", "x", 5))
        self.assertEqual([book.waste(), book.spent()], [0, 6])
        book.do(("swap", 1))
        self.assertEqual([book.waste(), book.spent()], [0, 11])
        book.do(("swap", 3))
        self.assertEqual([book.waste(), book.spent()], [10, 16])
        book.undo()
        book.undo()
        book.undo()
        self.assertEqual([book.waste(), book.spent()], [6, 6])

    def test_60_letters(self):
        prices = [(letter, 10 ** 30 - 1 - k) for k, letter in enumerate(ALPHABET)]
        word = (ALPHABET * 3)[:60]
        book, spent = SwapBook(prices, word), 0
        for k in range(200):
            place = (7 * k * k + k) % 60
            spent += price_of(book.word(), prices, [place])
            word = swapped(word, ALPHABET, place)
            book.do(("swap", place))
        self.assertEqual([book.word(), book.spent(), len(book.log())], [word, spent, 200])
        self.assertEqual(book.waste(), spent - cheapest((ALPHABET * 3)[:60], word, prices))
        self.assertEqual(book.cost_to(word[::-1]), cheapest(word, word[::-1], prices))
        short = SwapBook(prices, ALPHABET[:24])
        self.assertEqual(short.cheap_steps(ALPHABET[23::-1]),
                         [("swap", place) for place in first_deeds(ALPHABET[:24], ALPHABET[23::-1], prices)])
        made = book.copy()
        for _ in range(200):
            made.undo()
        self.assertEqual([line_of(made.prices(), made.word()), made.spent()], [line_of(prices, (ALPHABET * 3)[:60]), 0])

    def test_refused(self):
        check_refusals(self, SwapBook, {"prices": FEES, "word": "axbyc"},
                       {"prices": (InvalidPrices, NOT_PRICES), "word": (InvalidWord, NOT_WORDS)})
        check_refusals(self, is_step, {"book": SwapBook([], ""), "value": ("swap", 0)},
                       {"book": (InvalidDeed, [None, True, 1, "book", [], (FEES, "axbyc"), {"book": 1}])})
        self.assertIs(is_step(book=SwapBook(FEES, "axbyc"), value=("swap", 1)), True)
        self.assertIsNone(SwapBook(prices=FEES, word="axbyc").do(step=("swap", 1)))
        self.assertEqual(SwapBook(FEES, "axbyc").cost_to(other="axbyc"), 0)
        self.assertEqual(SwapBook(FEES, "axbyc").cheap_steps(other="axbyc"), [])


if __name__ == "__main__":
    unittest.main()
