"""Point 76: lines."""

import itertools
import random
import re
import unittest

from plain import NOT_PRICES, NOT_WORDS, check_refusals
from sideswaps.errors import InvalidLine, InvalidPrices, InvalidWord
from sideswaps.lines import line_of, of_line, right_part

ALPHABET = "abcdefghijklmnopqrstuvwxyz"
NOT_STRINGS = [None, True, 1, b"x", ["x=1:"], ("x=1:",), {"x=1:": 1}]
NOT_LINES = NOT_STRINGS + [
    "", "x", "x=", "x=1", "x=1,", "x=0:", "x=01:", "x=3,y=1", "y=1,x=1:", "x=1,x=1:", "x=1,:", ",x=1:", "x1:", "=1:", "X=1:",
    "x=-1:", "x=+1:", "x= 1:", "x=1 :", ":A", ":a b", "::", ":x=1", "x=1:a:", "x=1::", "xy=1:", "x=1:a\n", ":\n", "x=1y=2:",
    "x=1,y=2:abc1", "x=1,,y=2:", "_=1:", "x=1_0:", ":_", "z=1,a=1:", " :", ": ", "x==1:", "x=a:", "x=1;y=2:",
]


def plain_prices(line):
    """The prices of a line, None for what is no line."""
    if not re.fullmatch("([a-z]=[1-9][0-9]*(,[a-z]=[1-9][0-9]*)*)?:[a-z]*", line):
        return None
    items = [item.split("=") for item in line.split(":")[0].split(",") if item]
    letters = [letter for letter, _ in items]
    return [(letter, int(price)) for letter, price in items] if letters == sorted(set(letters)) else None


def plain_right(text):
    """The longest beginning with which a line begins: all ways to go on are tried."""
    ends = ["", ":", "=1:", "1:"] + [letter + "=1:" for letter in ALPHABET]
    for many in range(len(text), -1, -1):
        if any(plain_prices(text[:many] + end) is not None for end in ends):
            return text[:many]
    return None


class LinesTest(unittest.TestCase):
    def test_there_and_back(self):
        draw = random.Random(1)
        for _ in range(300):
            letters = sorted(draw.sample(ALPHABET, draw.randrange(6)))
            prices = [(letter, draw.choice([1, 9, 10, draw.randrange(1, 10 ** 30)])) for letter in letters]
            word = "".join(draw.choice("axyz") for _ in range(draw.randrange(8)))
            line = line_of(prices, word)
            self.assertEqual(line, ",".join(letter + "=" + str(price) for letter, price in prices) + ":" + word)
            self.assertEqual([of_line(line), right_part(line)], [(prices, word), line])

    def test_all_short_strings(self):
        for size in range(7):
            for signs in itertools.product("xy=10,:", repeat=size) if size < 6 else itertools.product("xz=0,:", repeat=size):
                line = "".join(signs)
                prices = plain_prices(line)
                if prices is None:
                    with self.assertRaises(InvalidLine):
                        of_line(line)
                else:
                    self.assertEqual(of_line(line), (prices, line.split(":")[1]))
                if size < 5:
                    self.assertEqual(right_part(line), plain_right(line), line)

    def test_longer_strings(self):
        draw = random.Random(2)
        for _ in range(1500):
            line = list(draw.choice(["a=1,m=20,z=300:axz", "x=12,y=10:", ":abc", "y=5,z=105:", "a=1,b=2,c=3,d=4:dcba"]))
            for _ in range(draw.randrange(1, 3)):
                spot = draw.randrange(len(line))
                line[spot:spot + draw.randrange(2)] = draw.choice(["", "z", "a", "=", ",", ":", "0", "7", "A", " ", "\n"])
                line = line or [":"]
            self.assertEqual(right_part("".join(line)), plain_right("".join(line)), line)

    def test_ordinary(self):
        told = [line_of([("x", 3), ("y", 1)], "axbyc"), line_of([], ""), of_line("x=12:"), right_part("x=3,a=1:b"),
                right_part("x=03"), right_part("z=1,y=1:"), right_part(":aB")]
        self.assertEqual(told, ["x=3,y=1:axbyc", ":", ([("x", 12)], ""), "x=3,", "x=", "z=1", ":a"])
        self.assertEqual([of_line(":"), of_line(":abc"), right_part(""), right_part(","), right_part("x=1")],
                         [([], ""), ([], "abc"), "", "", "x=1"])

    def test_figures(self):
        great = 10 ** 30 - 1
        self.assertEqual(of_line(line_of([("x", great)], "x")), ([("x", great)], "x"))
        line = "x=" + "1" + "0" * 1900 + ":ab"
        self.assertEqual([of_line(line), right_part(line)], [([("x", 10 ** 1900)], "ab"), line])
        self.assertEqual(line_of([("x", 10 ** 60)], ""), "x=1" + "0" * 60 + ":")
        self.assertEqual([right_part("x=0"), right_part("x=10"), right_part("x=1,y=0")], ["x=", "x=10", "x=1,y="])

    def test_2000_signs(self):
        line = line_of([(letter, 10 ** 30 - 1) for letter in ALPHABET], "x" * 300)
        self.assertEqual([len(line), right_part(line)], [26 * 33 + 300, line])
        long = ":" + "a" * 1999
        self.assertEqual([len(long), right_part(long), of_line(long)], [2000, long, ([], "a" * 1999)])
        self.assertEqual(right_part("x=" + "9" * 1997 + "!"), "x=" + "9" * 1997)
        for value in (":" + "a" * 2000, "!" * 2001):
            with self.assertRaises(InvalidLine) as caught:
                right_part(value)
            self.assertIs(caught.exception.value, value)

    def test_refused(self):
        check_refusals(self, line_of, {"prices": [("x", 3)], "word": "axb"},
                       {"prices": (InvalidPrices, NOT_PRICES), "word": (InvalidWord, NOT_WORDS)})
        check_refusals(self, of_line, {"line": ":"}, {"line": (InvalidLine, NOT_LINES)})
        check_refusals(self, right_part, {"line": ":"}, {"line": (InvalidLine, NOT_STRINGS + ["a" * 2001])})


if __name__ == "__main__":
    unittest.main()
