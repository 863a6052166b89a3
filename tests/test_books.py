"""Points 40 to 43: books of joints."""

import random
import unittest

from plain import NOT_COUNTS, NOT_PRICES, NOT_WORDS, books_over, check_refusals, plain_class, plain_far, words_over
from plain import words_up_to
from sideswaps.books import cheapest_book, cheapest_plan, least_books, lie_book
from sideswaps.classes import comes
from sideswaps.errors import InvalidNumber, InvalidPrices, InvalidWord, Unlike
from sideswaps.fewest import cheapest

GREAT = 10 ** 30 - 1
ALPHABET = "abcdefghijklmnopqrstuvwxyz"
TWO = {"word": "abc", "other": "cba"}
TWO_WRONG = {"word": (InvalidWord, NOT_WORDS), "other": (InvalidWord, NOT_WORDS)}
FEES = [("a", 1), ("b", 5), ("c", 1)]


def mixed(word, seed):
    letters = list(word)
    random.Random(seed).shuffle(letters)
    return "".join(letters)


def same_letters(size):
    """All tuples of two words of at most so many letters that have the same ones, each as often."""
    words = words_up_to("abc", size)
    return [(one, other) for one in words for other in words if sorted(one) == sorted(other)]


def plain_books(word, other):
    """All books of the letters of a word by which it comes to another one, in the order of words: deeds are tried."""
    return [book for book in books_over(word + other) if other in plain_class(word, book)]


class LieBookTest(unittest.TestCase):
    def test_against_cells(self):
        for word, other in same_letters(4):
            first, second = word + "_", other + "_"
            books = []
            for lie in range(len(first)):
                pairs = [(first[(c + lie) % len(first)], second[c]) for c in range(len(first))]
                book = "".join(sorted({sign for a, b in pairs if a != b for sign in a + b} - {"_"}))
                self.assertEqual(lie_book(word, other, lie), book)
                books.append(set(book))
            for book in books_over("abcd"):
                self.assertIs(comes(word, other, book), any(each <= set(book) for each in books))

    def test_ordinary(self):
        self.assertEqual([lie_book("abc", "cba", lie) for lie in range(4)], ["ac", "abc", "b", "abc"])
        self.assertEqual([lie_book("", "", 0), lie_book("aab", "aab", 0), lie_book("z" * 60, "z" * 60, 60)], ["", "", "z"])

    def test_refused(self):
        wrong = {**TWO_WRONG, "lie": (InvalidNumber, NOT_COUNTS + [4, 5, GREAT])}
        check_refusals(self, lie_book, {**TWO, "lie": 3}, wrong)
        for word, other in [("abc", "abd"), ("abc", "ab"), ("ab", "abc"), ("aab", "abb"), ("", "a")]:
            check_refusals(self, lie_book, {"word": word, "other": other, "lie": 0}, {"other": (Unlike, [other])})
            # The number is refused ahead of unlike words, and it is asked for the letters of the first one.
            with self.assertRaises(InvalidNumber):
                lie_book(word, other, len(word) + 1)


class LeastBooksTest(unittest.TestCase):
    def check(self, word, other):
        books = plain_books(word, other)
        least = [book for book in books if not any(set(each) < set(book) for each in books)]
        self.assertEqual(least_books(word, other), least, (word, other))
        self.assertEqual(least_books(other, word), least)
        self.assertLessEqual(len(least), len(word) + 1)

    def test_against_all_books(self):
        for word in words_up_to("abc", 4):
            for other in words_over("abc", len(word))[::2]:
                self.check(word, other)

    def test_more_letters(self):
        for seed, word in enumerate(["abcde", "aabbcd", "abcabd", "abacad", "abcdef"]):
            for more in range(3):
                self.check(word, mixed(word, seed + 10 * more))

    def test_ordinary(self):
        told = [least_books("abc", "cba"), least_books("abc", "bca"), least_books("abc", "abd"), least_books("aab", "aab"),
                least_books("", "")]
        self.assertEqual(told, [["b", "ac"], ["a", "bc"], [], [""], [""]])
        for word, other in [("ab", "abc"), ("", "a"), ("aab", "abb"), ("a", "b")]:
            self.assertEqual(least_books(word, other), [])

    def test_60_letters(self):
        self.assertEqual(least_books("abcd" * 15, "badc" * 15), ["ac", "bd"])
        word = (ALPHABET * 3)[:60]
        for other in (mixed(word, 4), word[::-1], word[7:] + word[6] + word[:6]):
            for book in least_books(word, other):
                self.assertIs(comes(word, other, book), True)
                for letter in book:
                    self.assertIs(comes(word, other, book.replace(letter, "")), False)
        self.assertIn("g", least_books(word, word[7:] + word[6] + word[:6]))

    def test_refused(self):
        check_refusals(self, least_books, TWO, TWO_WRONG)


class CheapestBookTest(unittest.TestCase):
    def plain(self, word, other, fees):
        costs = dict(fees)
        found = [(sum(costs[letter] for letter in book), len(book), book) for book in plain_books(word, other)
                 if set(book) <= set(costs)]
        return min((total, size, book) for total, size, book in found)[::2] if found else None

    def test_against_all_books(self):
        lists = ([], [("a", 1)], [("a", 1), ("b", 1)], FEES, [("a", 2), ("b", 2), ("c", 4)], [("b", 3), ("c", 1), ("z", 1)])
        for fees in lists:
            for word, other in same_letters(4)[::3]:
                self.assertEqual(cheapest_book(word, other, fees), self.plain(word, other, fees), (word, other, fees))
        fees = [("a", 3), ("b", 2), ("c", 3), ("d", 1), ("e", 2)]
        for seed in range(12):
            word, other = mixed("abcdea", seed), mixed("abcdea", seed + 50)
            self.assertEqual(cheapest_book(word, other, fees), self.plain(word, other, fees))

    def test_ordinary(self):
        self.assertEqual(cheapest_book("abc", "cba", FEES), (2, "ac"))
        # Equal sums: the shorter one is first, then the one that is ahead.
        self.assertEqual(cheapest_book("abc", "cba", [("a", 1), ("b", 2), ("c", 1)]), (2, "b"))
        self.assertEqual(cheapest_book("abcd", "badc", [(letter, GREAT) for letter in "abcd"]), (2 * GREAT, "ac"))
        self.assertEqual([cheapest_book("abc", "abc", []), cheapest_book("", "", FEES)], [(0, ""), (0, "")])
        self.assertEqual([cheapest_book("abc", "cba", [("a", 1)]), cheapest_book("ab", "ac", FEES)], [None, None])

    def test_refused(self):
        check_refusals(self, cheapest_book, {**TWO, "fees": FEES}, {**TWO_WRONG, "fees": (InvalidPrices, NOT_PRICES)})
        # Also where no book leads.
        check_refusals(self, cheapest_book, {"word": "a", "other": "b", "fees": FEES},
                       {"fees": (InvalidPrices, NOT_PRICES)})


class CheapestPlanTest(unittest.TestCase):
    def plain(self, word, other, fees, prices):
        costs, by_deed = dict(fees), dict(prices)
        found = []
        for book in books_over(word + other):
            if set(book) <= set(costs) & set(by_deed):
                least = plain_far(word, [(letter, by_deed[letter]) for letter in book]).get(other)
                if least is not None:
                    found.append((sum(costs[letter] for letter in book) + least, len(book), book))
        return min(found)[::2] if found else None

    def test_against_all_books(self):
        lists = (FEES, [("a", 1), ("b", 1), ("c", 1)], [("a", 4), ("b", 2), ("c", 1)], [("b", 1), ("c", 7)], [])
        for fees in lists:
            for prices in lists:
                for word, other in same_letters(4)[::17]:
                    arguments = (word, other, fees, prices)
                    self.assertEqual(cheapest_plan(*arguments), self.plain(*arguments), arguments)

    def test_not_always_a_least_book(self):
        fees, found = [(letter, 1) for letter in "abcd"], set()
        for prices in ([("a", 9), ("b", 1), ("c", 1), ("d", 1)], [("a", 1), ("b", 9), ("c", 1), ("d", 9)]):
            for seed in range(60):
                word, other = mixed("abcdaab", seed), mixed("abcdaab", seed + 100)
                told = cheapest_plan(word, other, fees, prices)
                self.assertEqual(told, self.plain(word, other, fees, prices))
                lie_books = [lie_book(word, other, lie) for lie in range(len(word) + 1)]
                self.assertIn(told[1], lie_books)
                found.add(told[1] in least_books(word, other))
                total = sum(dict(fees)[letter] for letter in told[1])
                kept = [(letter, price) for letter, price in prices if letter in told[1]]
                self.assertEqual(told[0] - total, cheapest(word, other, kept))
        self.assertEqual(found, {True, False})

    def test_ordinary(self):
        ones = [("a", 1), ("b", 1), ("c", 1)]
        told = [cheapest_plan("abc", "cba", FEES, ones), cheapest_plan("abc", "cba", FEES, [("b", 9)]),
                cheapest_plan("abc", "cba", FEES, [("a", 3)])]
        self.assertEqual(told, [(5, "ac"), (14, "b"), None])
        self.assertEqual([cheapest_plan("abc", "abc", [], []), cheapest_plan("ab", "ac", FEES, ones)], [(0, ""), None])
        great = [(letter, GREAT) for letter in "abc"]
        self.assertEqual(cheapest_plan("abc", "cba", great, great), (2 * GREAT, "b"))

    def test_60_letters(self):
        word = (ALPHABET * 3)[:60]
        fees = [(letter, 1 + k % 7) for k, letter in enumerate(ALPHABET)]
        prices = [(letter, 1 + k % 5) for k, letter in enumerate(ALPHABET)]
        for other in (mixed(word, 1), word[::-1]):
            total, book = cheapest_plan(word, other, fees, prices)
            kept = [(letter, price) for letter, price in prices if letter in book]
            self.assertEqual(total, sum(dict(fees)[letter] for letter in book) + cheapest(word, other, kept))

    def test_refused(self):
        wrong = {**TWO_WRONG, "fees": (InvalidPrices, NOT_PRICES), "prices": (InvalidPrices, NOT_PRICES)}
        check_refusals(self, cheapest_plan, {**TWO, "fees": FEES, "prices": FEES}, wrong)
        check_refusals(self, cheapest_plan, {"word": "a", "other": "b", "fees": FEES, "prices": FEES}, wrong)


if __name__ == "__main__":
    unittest.main()
