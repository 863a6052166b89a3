"""Points 44 and 45: books tried on pairs of words, and compared on all words of a length."""

import random
import unittest

from plain import NOT_COUNTS, NOT_JOINTS, NOT_LISTS, books_over, check_refusals, plain_class, words_over
from sideswaps.bookpairs import book_within, books_alike, books_tried, explaining, outside_words, parting_words
from sideswaps.classes import comes
from sideswaps.errors import InvalidJoints, InvalidList, InvalidNumber, TooMany

ALPHABET = "abcdefghijklmnopqrstuvwxyz"
NOT_PAIRS = NOT_LISTS + [
    [None], [("ab",)], [("ab", "ba", "ab")], [["ab", "ba"]], ["ab"], [("ab", "bA")], [("ab", 1)], [("ab", None)],
    [("ab", "ba"), ("a_", "")], [("ab", "ba"), None], [()],
]
COMPARED = {"one": "a", "other": "b", "letters": "abc", "size": 3}
COMPARED_WRONG = {
    "one": (InvalidJoints, NOT_JOINTS), "other": (InvalidJoints, NOT_JOINTS), "letters": (InvalidJoints, NOT_JOINTS),
    "size": (InvalidNumber, NOT_COUNTS),
}


def mixed_pairs(draw, letters, many):
    """So many tuples of two words of some letters in any order."""
    found = []
    for _ in range(many):
        letters = draw.sample(letters, len(letters))
        found.append(("".join(letters), "".join(draw.sample(letters, len(letters)))))
    return found


class BooksTriedTest(unittest.TestCase):
    def plain(self, pairs, refused):
        letters = "".join(word for pair in pairs + refused for word in pair)
        leading = [book for book in books_over(letters) if all(other in plain_class(one, book) for one, other in pairs)]
        least = [book for book in leading if not any(set(each) < set(book) for each in leading)]
        told = []
        for book in least:
            led = [k for k, (one, other) in enumerate(refused) if other in plain_class(one, book)]
            told.append((book, led[0] if led else None))
        return told, leading

    def check(self, pairs, refused):
        told, leading = self.plain(pairs, refused)
        self.assertEqual(books_tried(pairs, refused), told, (pairs, refused))
        self.assertEqual(explaining(pairs, refused), [book for book, number in told if number is None])
        right = [set(book) for book, number in told if number is None]
        for book in leading:
            explains = not any(other in plain_class(one, book) for one, other in refused)
            if explains:
                self.assertTrue(any(each <= set(book) for each in right))
        self.assertIs(bool(right), any(not any(other in plain_class(one, book) for one, other in refused)
                                       for book in leading))

    def test_against_all_books(self):
        draw = random.Random(2)
        for number in range(60):
            letters = draw.choice(["abc", "abcd", "aabc", "abca"])
            self.check(mixed_pairs(draw, letters, number % 4), mixed_pairs(draw, letters, number // 4 % 4))

    def test_ordinary(self):
        self.assertEqual(books_tried([("abc", "cba")], [("abc", "bca")]), [("b", None), ("ac", 0)])
        self.assertEqual(explaining([("abc", "cba")], [("abc", "bca")]), ["b"])
        self.assertEqual([books_tried([("ab", "ac")], []), explaining([("ab", "ac")], [])], [[], []])
        # The number is that of the first of the refused pairs that are led.
        refused = [("ab", "ac"), ("abc", "bca"), ("abc", "cba")]
        self.assertEqual(books_tried([("abc", "cba")], refused), [("b", 2), ("ac", 1)])

    def test_no_pairs(self):
        self.assertEqual([books_tried([], []), explaining([], [])], [[("", None)], [""]])
        self.assertEqual(books_tried([], [("ab", "ba"), ("ab", "ab")]), [("", 1)])
        self.assertEqual(books_tried([("ab", "ab"), ("", "")], []), [("", None)])
        self.assertEqual(explaining([], [("a", "a")]), [])

    def test_six_pairs_of_eight_letters(self):
        draw = random.Random(8)
        for letters, swaps in (("abcdefgh", 1), ("abcdefgh", 2), ("abcdefghabcd", 1)):
            pairs = []
            for _ in range(6):
                word = "".join(draw.sample(letters, len(letters)))
                other = word
                for _ in range(swaps):
                    place = draw.randrange(len(word))
                    other = other[place + 1:] + other[place] + other[:place]
                pairs.append((word, other))
            told = books_tried(pairs, pairs[::-1])
            least = [book for book in books_over("abcdefgh") if all(comes(one, other, book) for one, other in pairs)]
            least = [book for book in least if not any(set(each) < set(book) for each in least)]
            self.assertEqual(told, [(book, 0) for book in least])
            refused = mixed_pairs(draw, letters, 6)
            for book, number in books_tried(pairs, refused):
                led = [k for k, (one, other) in enumerate(refused) if comes(one, other, book)]
                self.assertEqual(number, led[0] if led else None)

    def test_60_letters(self):
        word, other, refused = "abcd" * 15, "badc" * 15, "dabc" * 15
        self.assertEqual([comes(word, refused, "ac"), comes(word, refused, "bd")], [False, True])
        self.assertEqual(books_tried([(word, other)] * 6, [(word, "a")] * 5 + [(word, refused)]), [("ac", None), ("bd", 5)])

    def test_refused(self):
        for function in (books_tried, explaining):
            check_refusals(self, function, {"pairs": [("abc", "cba")], "refused": [("abc", "bca")]},
                           {"pairs": (InvalidList, NOT_PAIRS), "refused": (InvalidList, NOT_PAIRS)})
            # Also where no book leads the pairs.
            check_refusals(self, function, {"pairs": [("a", "b")], "refused": []}, {"refused": (InvalidList, NOT_PAIRS)})


class ComparedTest(unittest.TestCase):
    def led(self, book, words):
        """All tuples of two words of which a book leads the first to the second, deeds tried."""
        return {(one, other) for one in words for other in plain_class(one, book)}

    def test_against_all_words(self):
        for letters, sizes in [("", (0, 1, 2)), ("b", (0, 1, 2, 3)), ("ab", (0, 1, 2, 3, 4)), ("abc", (0, 1, 2, 3)), ("acd", (2, 4))]:
            for size in sizes:
                words = words_over(letters, size)
                books = books_over("abcd" if size < 4 else letters)
                led = {book: self.led(book, words) for book in books}
                for one in books:
                    for other in books:
                        arguments = (one, other, letters, size)
                        outside = led[one] - led[other]
                        parting = outside | (led[other] - led[one])
                        self.assertIs(book_within(*arguments), not outside, arguments)
                        self.assertIs(books_alike(*arguments), not parting, arguments)
                        self.assertEqual(outside_words(*arguments), min(outside, default=None), arguments)
                        self.assertEqual(parting_words(*arguments), min(parting, default=None), arguments)

    def test_ordinary(self):
        self.assertEqual([books_alike("a", "b", "ab", 2), books_alike("a", "b", "ab", 10 ** 20)], [True, False])
        self.assertEqual([parting_words("a", "b", "ab", 3), outside_words("b", "a", "ab", 3)], [("aab", "aba"), ("abb", "bab")])
        self.assertIs(book_within("a", "ac", "abc", 7), True)

    def test_great_sizes(self):
        great = 10 ** 30 - 1
        for size in (3, 60, great):
            self.assertIs(books_alike("ax", "ay", "abc", size), True)
            self.assertIs(book_within("a", "abc", ALPHABET, size), True)
            self.assertIs(book_within("abc", "a", ALPHABET, size), False)
            self.assertIs(books_alike("a", "", "a", size), True)
            self.assertIs(book_within(ALPHABET, "", "", size), True)
        self.assertIs(books_alike(ALPHABET[1:], ALPHABET[:-1], ALPHABET, 2), True)
        self.assertIs(books_alike(ALPHABET[2:], ALPHABET[:-1], ALPHABET, 2), False)

    def test_60_letters(self):
        for function in (parting_words, outside_words):
            self.assertIsNone(function("a", "", "a", 60))
            self.assertIsNone(function("a", "", "", 60))
            self.assertIsNone(function("a", "", "", 0))

    def test_about_3000(self):
        for letters, size, many in [("ab", 12, 4096), ("abcde", 5, 3125), (ALPHABET[:15], 3, 3375), (ALPHABET, 60, 26 ** 60), ("abc", 8, 6561)]:
            for one, other in [("a", "b"), ("a", "a"), ("", "ab")]:
                for function in (parting_words, outside_words):
                    with self.assertRaises(TooMany) as caught:
                        function(one, other, letters, size)
                    self.assertEqual(caught.exception.value, many)
        for letters, size in [("ab", 11), (ALPHABET[:14], 3), ("abc", 7), (ALPHABET, 2)]:
            one, other = parting_words("a", letters[2:], letters, size)
            self.assertIsNot(comes(one, other, "a"), comes(one, other, letters[2:]))
            one, other = outside_words(letters, letters[2:], letters, size)
            self.assertEqual([comes(one, other, letters), comes(one, other, letters[2:])], [True, False])
            self.assertIsNone(outside_words(letters[2:], letters, letters, size))
            self.assertIsNone(parting_words(letters, letters, letters, size))

    def test_refused(self):
        for function in (books_alike, book_within, parting_words, outside_words):
            check_refusals(self, function, COMPARED, COMPARED_WRONG)
            # All of these are refused ahead of how many words there are.
            check_refusals(self, function, {**COMPARED, "letters": ALPHABET, "size": 3}, COMPARED_WRONG)


if __name__ == "__main__":
    unittest.main()
