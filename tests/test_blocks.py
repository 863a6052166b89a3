"""Points 64 to 66: blocks, and what jumps of told widths can bring about."""

import itertools
import math
import random
import unittest

from plain import NOT_COUNTS, NOT_JOINTS, NOT_WORDS, check_refusals, plain_let_class, plain_let_rings, words_up_to
from sideswaps.blocks import block_orders, blocks, jump_bars, jump_size, jumps_lead
from sideswaps.errors import InvalidJoints, InvalidList, InvalidNumber, InvalidWord, TooMany
from sideswaps.jumps import shuffle
from test_jumps import NOT_WIDTHS

ALPHABET = "abcdefghijklmnopqrstuvwxyz"
FAR = "uvwxaayazaa"
JOINTS = "stuvwxyz"
# Blocks of seven stars: alone, beside pairs, and where the hole comes into it through a star of a pair.
SEVENS = [
    (FAR, [2, 3]), ("usaaavwaaxta", [4, 6]), ("aasyvawtxau", [2, 3]), ("waavaayaustaxaa", [1, 4, 5]),
    ("azwyavausaaxt", [2, 3]), ("aaxtavazsuywaa", [2, 7]), ("uawsvaxaataay", [2, 3]), ("waxaasauaavaatay", [4, 7, 8]),
]
WRONG = {"joints": (InvalidJoints, NOT_JOINTS), "widths": (InvalidList, NOT_WIDTHS)}


def plain_stars(word, joints):
    return [cell for cell, sign in enumerate(word + "_") if sign in joints + "_"]


def plain_near(word, joints, widths):
    """The sets of two near stars of a word."""
    size = len(word) + 1
    return {frozenset(pair) for pair in itertools.combinations(plain_stars(word, joints), 2)
            if abs(pair[0] - pair[1]) in widths or size - abs(pair[0] - pair[1]) in widths}


def hang_together(stars, near):
    """Whether stars hang together by near ones within them."""
    stars = set(stars)
    reached = set(sorted(stars)[:1])
    for _ in stars:
        reached |= {cell for pair in near if pair <= stars and pair & reached for cell in pair}
    return reached == stars


def plain_distance(word, joints, widths, root):
    """For each star to which the hole could come from one how many jumps away it is."""
    near = plain_near(word, joints, widths)
    found, level = {root: 0}, [root]
    while level:
        level = sorted({cell for pair in near if pair & set(level) for cell in pair} - set(found))
        found.update({cell: max(found.values()) + 1 for cell in level})
    return found


def plain_blocks(word, joints, widths):
    """The cells of all blocks to which the hole can come, by the words of the document, all sets of stars tried."""
    near = plain_near(word, joints, widths)
    stars = sorted(plain_distance(word, joints, widths, len(word)))
    found = []
    for many in range(len(stars), 1, -1):
        for cells in itertools.combinations(stars, many):
            fits = many == 2 and frozenset(cells) in near or many > 2 and hang_together(cells, near) and all(
                hang_together(set(cells) - {cell}, near) for cell in cells)
            if fits and not any(set(cells) <= set(other) for other in found):
                found.append(cells)
    return sorted(list(cells) for cells in found)


def plain_kind(cells, near):
    """The kind of a block, but for "seven"."""
    counts = [sum(1 for other in cells if frozenset((cell, other)) in near) for cell in cells]
    if len(cells) == 2:
        return "pair"
    if max(counts) == 2:
        return "round"
    for sides in itertools.product((0, 1), repeat=len(cells)):
        side = dict(zip(cells, sides))
        if all(side[one] != side[other] for one, other in itertools.combinations(cells, 2)
               if frozenset((one, other)) in near):
            return "even"
    return "all"


def rings_with_hole_at(rings, cell):
    return [ring for ring in rings if ring[cell] == "_"]


def letters_on(ring, cells, entry):
    return [ring[cell] for cell in cells if cell != entry]


def entry_of(word, joints, widths, cells, root):
    """The star of a block through which the hole comes into it from a star."""
    far = plain_distance(word, joints, widths, root)
    return min(cells, key=lambda cell: far[cell])


def plain_bar(word, other, joints, widths, turning):
    """The reason and the cells by which a turning is hindered, None if it is not, from all rings come to."""
    ring, size = word + "_", len(word) + 1
    wanted = "".join((other + "_")[(cell - turning) % size] for cell in range(size))
    stars = joints + "_"
    bodies = [cell for cell in range(size) if ring[cell] != wanted[cell] and not (ring[cell] in stars and wanted[cell] in stars)]
    if bodies:
        return "bodies", bodies
    hole = wanted.index("_")
    far = plain_distance(word, joints, widths, len(word))
    if hole not in far:
        return "hole", sorted([len(word), hole])
    still = [cell for cell in range(size) if cell not in far and ring[cell] != wanted[cell]]
    if still:
        return "still", still
    rings = rings_with_hole_at(plain_let_rings(word, joints, widths), hole)
    for cells in plain_blocks(word, joints, widths):
        entry = entry_of(word, joints, widths, cells, hole)
        if letters_on(wanted, cells, entry) not in [letters_on(each, cells, entry) for each in rings]:
            return "block", cells
    return None


def drawn_case(draw, most):
    """Any word of at most so many letters, joints and widths."""
    size = draw.randrange(most + 1)
    if draw.random() < 0.4:
        unlike = draw.sample("tuvwxyz", min(5, size))
        word = "".join(draw.sample(unlike + ["a"] * (size - len(unlike)), size))
    else:
        letters = draw.choice(["axy", "xyz", "auvxyz", "abxy"])
        word = "".join(draw.choice(letters) for _ in range(size))
    return word, draw.choice(["xy", "xyz", "uvwxyz", "tuvwxyz"]), sorted(draw.sample(range(1, 10), draw.randrange(4)))


class BlocksTest(unittest.TestCase):
    def test_against_sets_of_stars(self):
        draw, kinds = random.Random(1), set()
        for _ in range(250):
            word, joints, widths = drawn_case(draw, 8)
            near = plain_near(word, joints, widths)
            plain = [(cells, plain_kind(cells, near)) for cells in plain_blocks(word, joints, widths)]
            self.assertEqual(blocks(word, joints, widths), plain, (word, joints, widths))
            kinds |= {kind for _, kind in plain}
        self.assertEqual(kinds, {"pair", "round", "even", "all"})

    def test_seven(self):
        for word, widths in SEVENS:
            told = blocks(word, JOINTS, widths)
            sevens = [cells for cells, kind in told if kind == "seven"]
            self.assertEqual([len(cells) for cells in sevens], [7])
            self.assertEqual([cells for cells, _ in told], plain_blocks(word, JOINTS, widths))
        # As many stars, near to as many others, but with other ways between the two that are near to three.
        for cells, kind in blocks("tuvawaxyaza", "tuvwxyz", [1, 5]) + blocks("xyzuvw", "uvwxyz", [1, 3]):
            self.assertNotEqual(kind, "seven")

    def test_ordinary(self):
        told = [blocks("xyz", "xyz", [1]), blocks("xyz", "xyz", [1, 2]), blocks("axb", "x", [1]), blocks(FAR, "uvwxyz", [2, 3])]
        self.assertEqual(told, [[([0, 1, 2, 3], "round")], [([0, 1, 2, 3], "all")], [],
                                [([0, 1, 2, 3, 6, 8, 11], "seven")]])
        # No widths, widths above the length, and the same widths told the other way round.
        self.assertEqual([blocks("xyz", "xyz", []), blocks("xyz", "xyz", [4, 9]), blocks("", "x", [1])], [[], [], []])
        self.assertEqual([blocks("xyz", "xyz", [3]), blocks("x", "x", [1]), blocks("x", "x", [2, 3])],
                         [[([0, 1, 2, 3], "round")], [([0, 1], "pair")], []])
        self.assertEqual(blocks("xyxax", "xy", [1]), [([0, 1], "pair"), ([0, 5], "pair"), ([1, 2], "pair"), ([4, 5], "pair")])
        self.assertEqual(blocks("xyzwv", "vwxyz", [1, 3]), [([0, 1, 2, 3, 4, 5], "even")])

    def test_words_of_60_letters(self):
        word = (ALPHABET * 3)[:60]
        for widths, kind in [([1], "round"), ([60], "round"), ([1, 2], "all"), ([1, 3], "all"), (list(range(1, 70)), "all")]:
            self.assertEqual(blocks(word, ALPHABET, widths), [(list(range(61)), kind)])
        self.assertEqual(blocks(word[:59], ALPHABET, [1, 3]), [(list(range(60)), "even")])
        row = sorted([[0, 60]] + [[cell, cell + 1] for cell in range(58)])
        self.assertEqual(blocks("x" * 59 + "a", "x", [1]), [(cells, "pair") for cells in row])

    def test_refused(self):
        check_refusals(self, blocks, {"word": "axby", "joints": "xy", "widths": [2]},
                       {"word": (InvalidWord, NOT_WORDS), **WRONG})


class OrdersTest(unittest.TestCase):
    def check_orders(self, word, joints, widths):
        rings = rings_with_hole_at(plain_let_rings(word, joints, widths), len(word))
        told = blocks(word, joints, widths)
        product = 1
        for number, (cells, _) in enumerate(told):
            entry = entry_of(word, joints, widths, cells, len(word))
            plain = sorted({tuple(letters_on(ring, cells, entry)) for ring in rings})
            self.assertEqual(block_orders(word, joints, widths, number), [list(order) for order in plain])
            product *= len(plain)
        # The blocks are ordered independently of one another.
        self.assertEqual(len(set(rings)), product)

    def test_against_deeds(self):
        draw = random.Random(2)
        for _ in range(300):
            self.check_orders(*drawn_case(draw, 7))

    def test_seven(self):
        for word, widths in SEVENS:
            for each in (word, word.replace("u", "v"), word.replace("u", "v").replace("x", "w")):
                self.check_orders(each, JOINTS, widths)
        number = [kind for _, kind in blocks(FAR, JOINTS, [2, 3])].index("seven")
        self.assertEqual(len(block_orders(FAR, JOINTS, [2, 3], number)), 120)

    def test_5040_orders_and_more(self):
        told = block_orders("abcdefg", ALPHABET, [1, 2], 0)
        self.assertEqual(told, [list(order) for order in itertools.permutations("abcdefg")])
        half = block_orders("gbcdefa", ALPHABET, [1, 3], 0)
        self.assertEqual([len(half), half[0], half == sorted(half)], [2520, list("abcdegf"), True])
        for word, widths, many in [
            ("abcdefgh", [1, 2], 40320), ("abcdefghi", [1, 3], math.factorial(9) // 2), ("aabcdefg", [1, 2], 20160),
            ("a" * 30 + "b" * 30, [1, 2], math.comb(60, 30)), ("abcdefghij", [1, 2, 3], 3628800),
        ]:
            with self.assertRaises(TooMany) as caught:
                block_orders(word, ALPHABET, widths, 0)
            self.assertEqual(caught.exception.value, many)
        self.assertEqual(len(block_orders("a" * 58 + "bb", ALPHABET, [1, 2], 0)), 1770)
        self.assertEqual(len(block_orders((ALPHABET * 3)[:60], ALPHABET, [1], 0)), 60)
        self.assertEqual(len(block_orders("ab" * 30, ALPHABET, [1], 0)), 2)

    def test_ordinary(self):
        self.assertEqual(block_orders("xyz", "xyz", [1], 0), [["x", "y", "z"], ["y", "z", "x"], ["z", "x", "y"]])
        self.assertEqual([block_orders("x", "x", [1], 0), block_orders("xyx", "xy", [2], 0)], [[["x"]], [["y"]]])

    def test_refused(self):
        good = {"word": "xyz", "joints": "xyz", "widths": [1], "number": 0}
        wrong = {"word": (InvalidWord, NOT_WORDS), **WRONG, "number": (InvalidNumber, NOT_COUNTS + [1, 10 ** 29])}
        check_refusals(self, block_orders, good, wrong)
        check_refusals(self, block_orders, {**good, "widths": []}, {"number": (InvalidNumber, [0, 1, None])})
        # The number is looked at ahead of how many orders there are.
        check_refusals(self, block_orders, {**good, "word": "abcdefgh", "joints": ALPHABET, "widths": [1, 2]},
                       {"number": (InvalidNumber, [1])})


class SizeTest(unittest.TestCase):
    def test_against_deeds(self):
        draw = random.Random(3)
        for _ in range(400):
            word, joints, widths = drawn_case(draw, 7)
            self.assertEqual(jump_size(word, joints, widths), len(plain_let_class(word, joints, widths)))
        for word in words_up_to("xy", 6):
            for widths in ([1], [2], [1, 2], [3], [1, 3], [2, 3]):
                self.assertEqual(jump_size(word, "xy", widths), len(plain_let_class(word, "xy", widths)), (word, widths))

    def test_seven(self):
        for word, widths in SEVENS:
            for each in (word, word.replace("u", "v"), word.replace("t", "x").replace("s", "x").replace("w", "x")):
                self.assertEqual(jump_size(each, JOINTS, widths), len(plain_let_class(each, JOINTS, widths)))

    def test_words_of_unlike_joints(self):
        for length in list(range(12)) + [20, 26]:
            for widths in ([], [1], [2], [1, 2], [1, 3], [2, 4], [3, 9], [27]):
                self.assertEqual(jump_size(ALPHABET[:length], ALPHABET, widths), shuffle(length, widths)[1])

    def test_ordinary(self):
        told = [jump_size("xyz", "xyz", [1]), jump_size("xyz", "xyz", [1, 2]), jump_size("xxy", "xy", [1, 2]),
                jump_size(FAR, "uvwxyz", [2, 3])]
        self.assertEqual(told, [3, 6, 3, 840])
        self.assertEqual([jump_size("", "", []), jump_size("", "x", [1]), jump_size("xyz", "xyz", [])], [1, 1, 1])
        self.assertEqual([jump_size("x" * 60, "x", [1]), jump_size("x" * 59 + "y", "xy", [1, 2])], [1, 60])
        self.assertEqual(jump_size("x" * 59 + "a", "x", [1]), 60)
        self.assertEqual(jump_size("ab" * 30, "ab", [1, 2]), math.comb(60, 30))

    def test_refused(self):
        check_refusals(self, jump_size, {"word": "axby", "joints": "xy", "widths": [2]},
                       {"word": (InvalidWord, NOT_WORDS), **WRONG})


class BarsTest(unittest.TestCase):
    def others(self, draw, word, members):
        """Some words with the same letters, and some that come of a word."""
        mixed = ["".join(draw.sample(word, len(word))) for _ in range(4)]
        return mixed + [draw.choice(members) for _ in range(3)] + [word, word[::-1]]

    def test_against_deeds(self):
        draw, reasons = random.Random(4), set()
        for _ in range(120):
            word, joints, widths = drawn_case(draw, 6)
            members = sorted(plain_let_class(word, joints, widths))
            for other in self.others(draw, word, members):
                told = jump_bars(word, other, joints, widths)
                self.assertIs(told is None, other in members, (word, other, joints, widths))
                self.assertIs(jumps_lead(word, other, joints, widths), other in members)
                plain = [plain_bar(word, other, joints, widths, turning) for turning in range(len(word) + 1)]
                if told is None:
                    self.assertIn(None, plain)
                else:
                    self.assertEqual(told, [(turning, *bar) for turning, bar in enumerate(plain)], (word, other))
                    reasons |= {reason for _, reason, _ in told}
        self.assertEqual(reasons, {"bodies", "hole", "still", "block"})

    def test_seven(self):
        draw = random.Random(5)
        for word, widths in SEVENS:
            for each in (word, word.replace("u", "v")):
                members = plain_let_class(each, JOINTS, widths)
                places = [place for place, letter in enumerate(each) if letter != "a"]
                for _ in range(40):
                    other = list(each)
                    for place, letter in zip(places, draw.sample([each[k] for k in places], len(places))):
                        other[place] = letter
                    self.assertIs(jumps_lead(each, "".join(other), JOINTS, widths), "".join(other) in members)
                for other in draw.sample(sorted(members), 30):
                    self.assertIs(jumps_lead(each, other, JOINTS, widths), True)

    def test_unlike_letters_as_often(self):
        # Rings of unlike lengths, and joints that stand unlike often.
        self.assertEqual(jump_bars("xy", "xyx", "xy", [1]), [(0, "length", []), (1, "length", []), (2, "length", [])])
        self.assertEqual([jump_bars("", "x", "x", [1]), jump_bars("x", "", "x", [])],
                         [[(0, "length", [])], [(0, "length", []), (1, "length", [])]])
        self.assertEqual(jump_bars("xy", "xx", "xy", [1, 2]), [(0, "block", [0, 1, 2])] + [(k, "block", [0, 1, 2]) for k in (1, 2)])
        self.assertEqual([jumps_lead("xy", "xyx", "xy", [1]), jumps_lead("xy", "xx", "xy", [1])], [False, False])

    def test_ordinary(self):
        told = [jumps_lead("xyz", "yzx", "xyz", [1]), jumps_lead("xyz", "xzy", "xyz", [1]), jump_bars("axb", "bxa", "x", [1])[0]]
        self.assertEqual(told, [True, False, (0, "bodies", [0, 2])])
        self.assertEqual([jump_bars("xyz", "yzx", "xyz", [1]), jump_bars("", "", "", []), jump_bars("ab", "ab", "", [7])],
                         [None, None, None])
        self.assertEqual([jumps_lead("", "", "", []), jumps_lead("abxc", "cxab", "x", [3]), jumps_lead("abxc", "cxab", "x", [1])],
                         [True, True, False])
        self.assertEqual(jump_bars("axbyczd", "aybxczd", "xyz", [2])[0], (0, "block", [1, 3, 5, 7]))
        self.assertEqual(jump_bars("xyaax", "yxaax", "xy", [1])[0], (0, "block", [0, 1]))

    def test_60_letters(self):
        word = (ALPHABET * 3)[:60]
        self.assertIsNone(jump_bars(word, word[::-1], ALPHABET, [1, 2]))
        told = jump_bars(word, word[::-1], ALPHABET, [1])
        self.assertEqual(told, [(turning, "block", list(range(61))) for turning in range(61)])
        self.assertIsNone(jump_bars(word, word[7:] + word[:7], ALPHABET, [1]))
        self.assertEqual({reason for _, reason, _ in jump_bars(word, word[::-1], "x", [1])}, {"bodies"})

    def test_refused(self):
        for function in (jumps_lead, jump_bars):
            check_refusals(self, function, {"one": "axby", "other": "xaby", "joints": "xy", "widths": [2]},
                           {"one": (InvalidWord, NOT_WORDS), "other": (InvalidWord, NOT_WORDS), **WRONG})
            check_refusals(self, function, {"one": "axby", "other": "x", "joints": "xy", "widths": [2]}, WRONG)


if __name__ == "__main__":
    unittest.main()
