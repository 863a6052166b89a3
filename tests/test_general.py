"""Points 1 to 4: names, arguments that stay as they are, new lists, kinds of values, and time."""

import copy
import importlib
import inspect
import signal
import time
import unittest

from sideswaps.book import SwapBook
from sideswaps.errors import TooMany
from sideswaps.machines import Machine

# How long one call at the limits may take, far above what it does take.
SECONDS = 10
FEES = [("x", 3), ("y", 5)]
ALPHABET = "abcdefghijklmnopqrstuvwxyz"
ALL_FEES = [(letter, 10 ** 30 - 1 - k) for k, letter in enumerate(ALPHABET)]
LONGEST = (ALPHABET * 12)[:300]
# A ring of 200 stars that 20 turnings leave as it is.
RING_OF_20 = ("x" * 10 + "a") * 20
EVEN = Machine("ax", [[1, 0], [0, 1]], [0])
STARTS = Machine("ax", [[1, 2], [1, 1], [2, 2]], [1])
ROUND = Machine("wxyz", [[(k + 1) % 60, (k + 59) % 60, k, 0] for k in range(60)], [0, 59])
TWELVE = Machine("wxyz", [[(k + 1) % 12, 5 * k % 12, (k * k + 3) % 12, 11 - k] for k in range(12)], [1, 4, 5, 9])
WAYS_600 = Machine("abc", [[3, 0, 2], [2, 4, 2], [2, 3, 4], [5, 0, 1], [0, 0, 4], [0, 2, 1]], [2, 5])
PROGRAM = [(7 * k * k + k) % 60 for k in range(1000)]
BACK_60 = list(range(60))[::-1]
MIXED_14 = [(5 * k + 3) % 14 for k in range(14)]
FAR_JUMPS = "uvwxaayazaa"
MANY = 10 ** 29
TWO_RUNS = [("a", MANY), ("b", MANY)]
FAR_12 = [(letter, 10 ** 30 - 1 - k * k) for k, letter in enumerate("xyzwxyzwyxwz")]
SIX_FIGURES = [("w", 999999), ("x", 3), ("y", 500000), ("z", 999998)]
UP, DOWN = [("a", 0, 1), ("b", 0, 1), ("c", 0, 1)], [("c", 0, 1), ("b", 0, 1), ("a", 0, 1)]
FAMILY, OTHER = [("z", 2, 5), ("y", 0, 1), ("x", 9, 1), ("y", 9, 0)], [("y", 9, 0), ("x", 9, 1), ("y", 0, 1), ("z", 2, 5)]
LINE = ",".join(letter + "=" + "9" * 30 for letter in ALPHABET) + ":" + LONGEST
# The interface: for each module each function with arguments by name, and with arguments at its limits.
CALLS = {
    "words": [
        ("is_word", {"value": "ax"}, {"value": "ax" * 150}),
        ("is_joints", {"value": "xy"}, {"value": "abcdefghijklmnopqrstuvwxyz"}),
        ("is_prices", {"value": FEES}, {"value": [("x", 10 ** 30 - 1)]}),
        ("is_ahead", {"one": "ax", "other": "ay"}, {"one": "ax" * 150, "other": "ay" * 150}),
        ("joints_of", {"prices": FEES}, {"prices": [("x", 10 ** 30 - 1)]}),
        ("open_places", {"word": "axbyc", "joints": "xy"}, {"word": "xy" * 150, "joints": "xy"}),
        ("swapped", {"word": "axbyc", "joints": "xy", "place": 1}, {"word": "xy" * 150, "joints": "xy", "place": 299}),
        ("is_road", {"word": "axbyc", "joints": "xy", "value": [1, 1]},
         {"word": "xy" * 150, "joints": "xy", "value": [7] * 1000}),
        ("done", {"word": "axbyc", "joints": "xy", "road": [1, 1]},
         {"word": "xy" * 150, "joints": "xy", "road": [7] * 1000}),
        ("passed", {"word": "axbyc", "joints": "xy", "road": [1, 1]},
         {"word": "xy" * 150, "joints": "xy", "road": [7] * 100}),
        ("back_road", {"size": 5, "road": [1, 1]}, {"size": 300, "road": [7] * 1000}),
        ("price_of", {"word": "axbyc", "prices": FEES, "road": [1, 1]},
         {"word": "xy" * 150, "prices": [("x", 10 ** 30 - 1), ("y", 1)], "road": [7] * 1000}),
        ("moved", {"word": "axbyc", "joints": "xy", "road": [1, 1]},
         {"word": "xy" * 150, "joints": "xy", "road": [7] * 1000}),
    ],
    "rings": [
        ("star_ring", {"word": "axbyc", "joints": "xy"}, {"word": "xy" * 150, "joints": "xy"}),
        ("ring_turns", {"word": "axbyc", "joints": "xy"}, {"word": "xy" * 150, "joints": "xy"}),
        ("is_star_ring", {"value": "*a"}, {"value": "*" * 301}),
        ("one_deed", {"word": "axbyc", "joints": "xy"}, {"word": "xyz" * 100, "joints": "xy"}),
        ("is_alone", {"word": "axbyc", "joints": "xy"}, {"word": "x" * 300, "joints": "x"}),
    ],
    "classes": [
        ("comes", {"one": "axy", "other": "yxa", "joints": "xy"},
         {"one": "xay" * 100, "other": "yax" * 100, "joints": "xy"}),
        ("bar", {"one": "axa", "other": "yxa", "joints": "xy"},
         {"one": "xay" * 100, "other": "yay" * 100, "joints": "xy"}),
        ("is_bar", {"one": "ax", "other": "ay", "joints": "xy", "value": ("joint", "y", 0, 1)},
         {"one": "xay" * 100, "other": "yay" * 100, "joints": "xy", "value": ("joint", "x", 100, 0)}),
        ("road", {"one": "axbyc", "other": "cxayb", "joints": "xy"},
         {"one": "xy" * 30, "other": "yx" * 30, "joints": "xy"}),
        ("leads_to", {"one": "axbyc", "other": "cxayb", "joints": "xy", "value": [1, 1]},
         {"one": "xy" * 150, "other": "xy" * 150, "joints": "xy", "value": [7] * 1000}),
        ("first_word", {"word": "axbyc", "joints": "xy"}, {"word": "xy" * 150, "joints": "xy"}),
        ("last_word", {"word": "axbyc", "joints": "xy"}, {"word": "xy" * 150, "joints": "xy"}),
        ("classes_of", {"words": ["ax", "by", "xa"], "joints": "xy"},
         {"words": ["x" * k + "y" * (300 - k) for k in range(200)], "joints": "xy"}),
        ("parted_by", {"one": "axy", "other": "xay", "joints": "xy"},
         {"one": "abcdefgz", "other": "zabcdefg", "joints": "abcdefghijklmnopq"}),
    ],
    "sizes": [
        ("class_size", {"word": "axbyc", "joints": "xy"}, {"word": LONGEST, "joints": ALPHABET}),
        ("class_words", {"word": "axbyc", "joints": "xy"}, {"word": "y" + RING_OF_20[2:], "joints": "xy"}),
        ("parts_by", {"word": "axbyc", "joints": "xy", "fewer": "x"},
         {"word": "xy" * 149 + "x", "joints": "xy", "fewer": "x"}),
    ],
    "numbering": [
        ("how_many_ahead", {"word": "xay", "joints": "xy", "text": "xay"},
         {"word": LONGEST[:60], "joints": ALPHABET, "text": LONGEST[59::-1]}),
        ("word_numbered", {"word": "xay", "joints": "xy", "number": 3},
         {"word": LONGEST[:60], "joints": ALPHABET, "number": 10 ** 30 - 1}),
        ("next_word", {"word": "xay", "joints": "xy"}, {"word": LONGEST[:60], "joints": ALPHABET}),
        ("first_from", {"word": "xay", "joints": "xy", "text": "b"},
         {"word": LONGEST[:60], "joints": ALPHABET, "text": LONGEST[59::-1]}),
    ],
    "means": [
        ("how_many_with", {"word": "xay", "joints": "xy", "place": 0, "text": "a"},
         {"word": LONGEST[:60], "joints": ALPHABET, "place": 7, "text": "zab"}),
        ("letters_at", {"word": "xax", "joints": "x", "place": 0},
         {"word": LONGEST[:60], "joints": ALPHABET, "place": 59}),
        ("mean_of", {"word": "xay", "joints": "xy", "text": "xy"},
         {"word": LONGEST[:60], "joints": ALPHABET, "text": "zab"}),
    ],
    "lengths": [
        ("how_many_classes", {"letters": "abx", "joints": "x", "length": 2},
         {"letters": ALPHABET, "joints": ALPHABET[::2], "length": 200}),
        ("classes_by_size", {"letters": "abx", "joints": "x", "length": 2},
         {"letters": ALPHABET, "joints": "abc", "length": 24}),
        ("how_many_pairs", {"letters": "abx", "joints": "x", "length": 2},
         {"letters": ALPHABET, "joints": "abc", "length": 60}),
        ("first_words", {"letters": "abx", "joints": "x", "length": 2},
         {"letters": "ax", "joints": "x", "length": 12}),
    ],
    "fewest": [
        ("lies", {"one": "axa", "other": "axa", "joints": "x"}, {"one": "x" * 300, "other": "y" * 300, "joints": "xy"}),
        ("lots", {"one": "axby", "other": "aybx", "prices": FEES, "lie": 0},
         {"one": LONGEST, "other": LONGEST[::-1], "prices": ALL_FEES, "lie": 300}),
        ("lie_value", {"one": "axby", "other": "aybx", "prices": FEES, "lie": 0},
         {"one": LONGEST, "other": LONGEST[::-1], "prices": ALL_FEES, "lie": 300}),
        ("cheapest", {"one": "axby", "other": "aybx", "prices": FEES},
         {"one": LONGEST, "other": LONGEST[::-1], "prices": ALL_FEES}),
        ("fewest_deeds", {"one": "axby", "other": "aybx", "joints": "xy"},
         {"one": LONGEST, "other": LONGEST[::-1], "joints": ALPHABET}),
        ("one_deed_less", {"one": "axby", "other": "aybx", "prices": FEES, "lie": 0},
         {"one": LONGEST, "other": LONGEST[::-1], "prices": ALL_FEES, "lie": 300}),
        ("price_line", {"one": "axby", "other": "aybx", "prices": FEES, "letter": "x"},
         {"one": LONGEST[:60], "other": LONGEST[59::-1], "prices": ALL_FEES, "letter": "c"}),
    ],
    "roads": [
        ("road_along", {"one": "axby", "other": "aybx", "prices": FEES, "lie": 0},
         {"one": LONGEST[:60], "other": LONGEST[59::-1], "prices": ALL_FEES, "lie": 60}),
        ("is_cheapest_road", {"one": "axby", "other": "aybx", "prices": FEES, "value": [1, 1, 0]},
         {"one": LONGEST, "other": LONGEST, "prices": ALL_FEES, "value": [7, 292] * 500}),
        ("cheapest_road", {"one": "axby", "other": "aybx", "prices": FEES},
         {"one": LONGEST[:24], "other": LONGEST[23::-1], "prices": ALL_FEES}),
        ("first_deeds", {"one": "axby", "other": "aybx", "prices": FEES},
         {"one": LONGEST[:40], "other": LONGEST[39::-1], "prices": ALL_FEES}),
        ("how_many_cheapest", {"one": "axby", "other": "aybx", "prices": FEES},
         {"one": ALPHABET, "other": ALPHABET[::-1], "prices": ALL_FEES}),
    ],
    "farthest": [
        ("spread", {"word": "axby", "joints": "xy"}, {"word": "xa" * 53 + "y" + "b" * 193, "joints": "xy"}),
        ("spread_of", {"count": 4}, {"count": 60}),
        ("dearest", {"word": "axby", "prices": FEES}, {"word": "a" + "uvwxyz" * 49 + "b" * 5, "prices": ALL_FEES[20:]}),
        ("farthest_word", {"word": "axby", "prices": FEES},
         {"word": "a" + "uvwxyz" * 49 + "b" * 5, "prices": ALL_FEES[20:]}),
    ],
    "trains": [
        ("is_train", {"value": ["ab", "c"]}, {"value": [LONGEST[:25]] * 12}),
        ("train_text", {"train": ["ab", "c"]}, {"train": [LONGEST[:25]] * 12}),
        ("first_train", {"train": ["b", "a", ""]}, {"train": [LONGEST[:25]] * 12}),
        ("are_alike", {"one": ["a", "b"], "other": ["b", "a"]},
         {"one": [LONGEST[:25]] * 12, "other": [LONGEST[:25]] * 12}),
        ("train_deeds", {"train": ["ab", "c"], "joints": "b"}, {"train": [LONGEST[:25]] * 12, "joints": ALPHABET}),
        ("train_swapped", {"train": ["ab", "c"], "joints": "b", "deed": (0, 1, 1)},
         {"train": [LONGEST[:25]] * 12, "joints": ALPHABET, "deed": (11, 24, 11)}),
        ("train_back", {"train": ["ab", "c"], "joints": "b", "deed": (0, 1, 1)},
         {"train": [LONGEST[:25]] * 12, "joints": ALPHABET, "deed": (11, 24, 11)}),
        ("is_train_road", {"train": ["ab", "c"], "joints": "b", "value": [(0, 1, 1)]},
         {"train": ["x" * 25] * 12, "joints": "x", "value": [(0, 0, 0)] * 200}),
        ("train_done", {"train": ["ab", "c"], "joints": "b", "deeds": [(0, 1, 1)]},
         {"train": ["x" * 299 + "y"], "joints": "xy", "deeds": [(0, 7, 0)] * 200}),
        ("train_ring", {"train": ["ab", "c"], "joints": "b"}, {"train": ["xa" * 12] * 12, "joints": "x"}),
        ("train_parting", {"one": ["ab", "c"], "other": ["ab", "b"], "joints": "bc"},
         {"one": ["xay" * 8] * 12, "other": ["yax" * 8] * 12, "joints": "xy"}),
        ("how_many_trains", {"train": ["axb", "c"], "joints": "x"}, {"train": ["xy" * 12] * 12, "joints": "xy"}),
        ("how_many_lists", {"train": ["axb", "c"], "joints": "x"}, {"train": ["xy" * 12] * 12, "joints": "xy"}),
        ("trains_of", {"train": ["ab", "b"], "joints": "b"}, {"train": ["a" * 276 + "x" * 23 + "y"], "joints": "xy"}),
    ],
    "trainroads": [
        ("lie_values", {"one": ["ab", ""], "other": ["ba", ""], "prices": [("a", 1), ("b", 5)]},
         {"one": [LONGEST[:10]] * 6, "other": [LONGEST[9::-1]] * 6, "prices": ALL_FEES}),
        ("lie_lots", {"one": ["ab", ""], "other": ["ba", ""], "prices": [("a", 1), ("b", 5)], "number": 0},
         {"one": [LONGEST[:10]] * 6, "other": [LONGEST[9::-1]] * 6, "prices": ALL_FEES, "number": 65}),
        ("train_distance", {"one": ["ab", ""], "other": ["ba", ""], "prices": [("a", 1), ("b", 5)]},
         {"one": [LONGEST[:10]] * 6, "other": [LONGEST[9::-1]] * 6, "prices": ALL_FEES}),
        ("train_road", {"one": ["ab", ""], "other": ["ba", ""], "prices": [("a", 1), ("b", 5)]},
         {"one": [LONGEST[:10]] * 6, "other": [LONGEST[9::-1]] * 6, "prices": ALL_FEES}),
        ("is_cheapest", {"one": ["ab", ""], "other": ["ba", ""], "prices": [("a", 1), ("b", 5)], "value": [(0, 0, 0)]},
         {"one": ["x" * 10] * 6, "other": ["x" * 10] * 6, "prices": [("x", 1)], "value": [(0, 0, 0)] * 200}),
        ("first_train_deeds", {"one": ["ab", ""], "other": ["ba", ""], "prices": [("a", 1), ("b", 5)]},
         {"one": [LONGEST[:10]] * 6, "other": [LONGEST[9::-1]] * 6, "prices": ALL_FEES}),
        ("train_price", {"train": ["ab", ""], "prices": [("a", 1), ("b", 5)], "deeds": [(0, 0, 0)]},
         {"train": ["x" * 59 + "y"], "prices": FEES, "deeds": [(0, 7, 0)] * 200}),
    ],
    "books": [
        ("lie_book", {"word": "abc", "other": "cba", "lie": 0},
         {"word": LONGEST[:60], "other": LONGEST[59::-1], "lie": 60}),
        ("least_books", {"word": "abc", "other": "cba"}, {"word": LONGEST[:60], "other": LONGEST[59::-1]}),
        ("cheapest_book", {"word": "abc", "other": "cba", "fees": [("a", 1), ("b", 5), ("c", 1)]},
         {"word": LONGEST[:60], "other": LONGEST[59::-1], "fees": ALL_FEES}),
        ("cheapest_plan", {"word": "abc", "other": "cba", "fees": [("b", 5)], "prices": [("b", 9)]},
         {"word": LONGEST[:60], "other": LONGEST[59::-1], "fees": ALL_FEES, "prices": ALL_FEES}),
    ],
    "bookpairs": [
        ("books_tried", {"pairs": [("abc", "cba")], "refused": [("abc", "bca")]},
         {"pairs": [("abcdefgh" * 7 + "abcd", "dcba" + "hgfedcba" * 7)] * 6,
          "refused": [("abcdefgh" * 7 + "abcd", "dcba" + "hgfecdba" * 7)] * 6}),
        ("explaining", {"pairs": [("abc", "cba")], "refused": [("abc", "bca")]},
         {"pairs": [("abcdefgh", "badcfehg"), ("abcdefgh", "hgfedcba"), ("abcdefgh", "efghabcd")] * 2,
          "refused": [("abcdefgh", "bcdefgha")] * 6}),
        ("books_alike", {"one": "a", "other": "b", "letters": "ab", "size": 3},
         {"one": ALPHABET, "other": ALPHABET[1:], "letters": ALPHABET, "size": 10 ** 30 - 1}),
        ("book_within", {"one": "a", "other": "b", "letters": "ab", "size": 3},
         {"one": ALPHABET, "other": ALPHABET[1:], "letters": ALPHABET, "size": 10 ** 30 - 1}),
        ("parting_words", {"one": "a", "other": "b", "letters": "ab", "size": 3},
         {"one": "a", "other": "ab", "letters": "ab", "size": 11}),
        ("outside_words", {"one": "a", "other": "b", "letters": "ab", "size": 3},
         {"one": "abcdef", "other": "abcde", "letters": ALPHABET[:14], "size": 3}),
    ],
    "mirrors": [
        ("comes_mirrored", {"word": "abxc", "other": "cxba", "joints": "x", "mirrors": "a"},
         {"word": LONGEST[:60], "other": LONGEST[59::-1], "joints": ALPHABET[:13], "mirrors": ALPHABET[13:]}),
        ("mirrored_size", {"word": "abxc", "joints": "x", "mirrors": "a"},
         {"word": LONGEST[:60], "joints": ALPHABET[:13], "mirrors": ALPHABET[13:]}),
        ("cheapest_mirrored", {"word": "abxc", "other": "cxba", "prices": [("x", 2)], "mirrors": [("a", 3)]},
         {"word": LONGEST[:60], "other": LONGEST[59::-1], "prices": ALL_FEES[:13], "mirrors": ALL_FEES[13:]}),
    ],
    "machines": [
        ("Machine", {"letters": "ax", "moves": [[1, 0], [0, 1]], "ends": [0]},
         {"letters": "wxyz", "moves": [[k, 0, 59, 59 - k] for k in range(60)], "ends": list(range(60))}),
        ("lets", {"machine": EVEN, "word": "axa"}, {"machine": ROUND, "word": "wxyz" * 75}),
        ("least_machine", {"machine": EVEN}, {"machine": ROUND}),
        ("led_out", {"machine": STARTS, "joints": "ax"}, {"machine": WAYS_600, "joints": "abc"}),
        ("closed_joints", {"machine": STARTS}, {"machine": WAYS_600}),
        ("how_many_let", {"machine": STARTS, "word": "xaax", "joints": "x"},
         {"machine": TWELVE, "word": "wxyz" * 6, "joints": "wxyz"}),
        ("first_let", {"machine": STARTS, "word": "xaax", "joints": "x"},
         {"machine": TWELVE, "word": "xyz" * 7 + "www", "joints": "xyz"}),
        ("first_barred", {"machine": STARTS, "word": "xaax", "joints": "x"},
         {"machine": TWELVE, "word": "xyzxyzwxyzxywzxyzxyzwxyz", "joints": "xyz"}),
        ("road_into", {"machine": STARTS, "word": "xaax", "joints": "x", "most": 3},
         {"machine": Machine("wxyz", [[0] * 4], []), "word": "wxyyzwzxwyzxwwzyxzzwyxxy", "joints": "wxyz", "most": 3}),
    ],
    "closures": [
        ("within_one", {"machine": STARTS, "joints": "x"},
         {"machine": Machine("abc", [[0, 2, 1], [2, 1, 1], [0, 1, 2]], [0]), "joints": "c"}),
        ("firm_one", {"machine": STARTS, "joints": "x"},
         {"machine": Machine("abc", [[1, 2, 1], [2, 0, 0], [0, 1, 1]], [0, 2]), "joints": "abc"}),
        ("beyond_one", {"one": EVEN, "other": STARTS, "joints": "x"},
         {"one": TWELVE, "other": Machine("wxyz", [[1, 2, 0, 1], [2, 1, 1, 0], [0, 1, 2, 2]], [0]), "joints": "wxy"}),
    ],
    "programs": [
        ("moves_of", {"size": 4, "program": [1, 0]}, {"size": 60, "program": PROGRAM}),
        ("done_by", {"word": "abcd", "program": [1, 0]}, {"word": LONGEST[:60], "program": PROGRAM}),
        ("parting_by", {"size": 3, "one": [0], "other": [2]}, {"size": 60, "one": PROGRAM, "other": PROGRAM[::-1]}),
        ("undone", {"size": 4, "program": [1, 0]}, {"size": 60, "program": PROGRAM}),
        ("joint_places", {"size": 4, "program": [1, 0]}, {"size": 60, "program": PROGRAM}),
        ("fewest_places", {"placing": [2, 1, 0]}, {"placing": BACK_60}),
        ("first_program", {"placing": [2, 1, 0]}, {"placing": MIXED_14}),
        ("how_many_programs", {"placing": [1, 0, 2]}, {"placing": BACK_60}),
        ("programs_alike", {"size": 3, "programs": [[0], [], [2, 2]]}, {"size": 60, "programs": [PROGRAM] * 40}),
        ("joined_program", {"size": 3, "one": [0], "other": [0]},
         {"size": 14, "one": [k * k % 14 for k in range(1000)], "other": [k * k * k % 13 for k in range(1000)]}),
    ],
    "oftens": [
        ("moves_often", {"size": 5, "program": [2], "times": 7}, {"size": 60, "program": PROGRAM, "times": 10 ** 30 - 1}),
        ("done_often", {"word": "abcde", "program": [1], "times": 5},
         {"word": LONGEST[:60], "program": PROGRAM, "times": 10 ** 30 - 1}),
        ("order_of", {"size": 5, "program": [1]}, {"size": 60, "program": PROGRAM}),
        ("word_order", {"word": "aabaa", "program": [2]}, {"word": LONGEST[:60], "program": PROGRAM}),
        ("places_often", {"size": 5, "program": [1], "times": 1},
         {"size": 60, "program": PROGRAM, "times": 10 ** 30 - 1}),
        ("ever_places", {"size": 5, "program": [1]}, {"size": 60, "program": PROGRAM}),
        ("times_needed", {"size": 5, "program": [1]}, {"size": 60, "program": PROGRAM}),
    ],
    "jointnumbers": [
        ("done_by_numbers", {"word": "axbyc", "joints": "xy", "numbers": [1, 1]},
         {"word": "xay" * 100, "joints": "xy", "numbers": PROGRAM}),
        ("done_by_numbers_often", {"word": "axbyc", "joints": "xy", "numbers": [1, 1], "times": 3},
         {"word": "xay" * 100, "joints": "xy", "numbers": PROGRAM, "times": 10 ** 30 - 1}),
        ("numbers_of", {"word": "axbyc", "joints": "xy", "road": [1, 1]},
         {"word": "xy" * 150, "joints": "xy", "road": PROGRAM}),
        ("road_of", {"word": "axbyc", "joints": "xy", "numbers": [0, 1]},
         {"word": "xay" * 100, "joints": "xy", "numbers": PROGRAM}),
        ("numbers_parting", {"joints": "xy", "count": 2, "one": [0], "other": [1]},
         {"joints": "xy", "count": 60, "one": PROGRAM, "other": PROGRAM[::-1]}),
        ("numbers_order", {"count": 4, "numbers": [1, 0]}, {"count": 60, "numbers": PROGRAM}),
    ],
    "jumps": [
        ("let_places", {"word": "axby", "joints": "xy", "widths": [2]},
         {"word": LONGEST[:60], "joints": ALPHABET, "widths": list(range(1, 61))}),
        ("is_let_road", {"word": "axby", "joints": "xy", "widths": [2], "value": [1]},
         {"word": "xy" * 30, "joints": "xy", "widths": list(range(1, 61)), "value": [7] * 1000}),
        ("shuffle", {"length": 5, "widths": [1, 3]}, {"length": 300, "widths": list(range(1, 301))}),
    ],
    "blocks": [
        ("blocks", {"word": FAR_JUMPS, "joints": "uvwxyz", "widths": [2, 3]},
         {"word": LONGEST[:60], "joints": ALPHABET, "widths": list(range(1, 61))}),
        ("jump_size", {"word": "xxy", "joints": "xy", "widths": [1, 2]},
         {"word": LONGEST[:60], "joints": ALPHABET, "widths": [1, 2]}),
        ("block_orders", {"word": "xyz", "joints": "xyz", "widths": [1], "number": 0},
         {"word": "abcdefg", "joints": ALPHABET, "widths": [1, 2], "number": 0}),
        ("jumps_lead", {"one": "xyz", "other": "yzx", "joints": "xyz", "widths": [1]},
         {"one": LONGEST[:60], "other": LONGEST[59::-1], "joints": ALPHABET, "widths": [1]}),
        ("jump_bars", {"one": "xyz", "other": "xzy", "joints": "xyz", "widths": [1]},
         {"one": LONGEST[:60], "other": LONGEST[59::-1], "joints": ALPHABET, "widths": [1]}),
    ],
    "jumproads": [
        ("jump_road", {"one": "xyz", "other": "yzx", "joints": "xyz", "widths": [1]},
         {"one": "avwtxzyu", "other": "tvxauzyw", "joints": "tuvwxyz", "widths": [4, 7, 8]}),
        ("jump_fewest", {"one": "xyz", "other": "yxz", "joints": "xyz", "widths": [1, 2]},
         {"one": "avtxzawauaaya", "other": "aauavawyzxata", "joints": "tuvwxyz", "widths": [2, 10, 13]}),
        ("least_widths", {"one": "xyz", "other": "xzy", "joints": "xyz"},
         {"one": "tauavwxaayaz", "other": "zayaaxwvauat", "joints": "tuvwxyz"}),
    ],
    "farwords": [
        ("is_far", {"value": [("a", 0)]}, {"value": FAR_12}),
        ("far_length", {"far": TWO_RUNS}, {"far": FAR_12}),
        ("letter_at", {"far": TWO_RUNS, "place": MANY}, {"far": FAR_12, "place": 10 ** 30 - 1}),
        ("plain_far", {"far": [("a", 2), ("b", 0), ("a", 1)]}, {"far": FAR_12}),
        ("far_word", {"far": [("a", 2), ("b", 1)]}, {"far": [("a", 100), ("b", 100), ("c", 100)]}),
        ("far_swapped", {"far": TWO_RUNS, "joints": "b", "place": MANY},
         {"far": FAR_12, "joints": "wxyz", "place": 10 ** 30 - 1}),
        ("far_done", {"far": [("a", 1), ("x", 2)], "joints": "x", "road": [1, 0]},
         {"far": FAR_12, "joints": "wxyz", "road": [MANY * k // 5 for k in range(40)]}),
        ("letter_after", {"far": TWO_RUNS, "place": 0, "many": MANY, "spot": 0},
         {"far": FAR_12, "place": 10 ** 30 - 2, "many": 10 ** 30 - 1, "spot": 10 ** 30 - 3}),
        ("star_runs", {"far": [("a", 2), ("x", 3), ("b", 1)], "joints": "x"}, {"far": FAR_12, "joints": "y"}),
        ("far_parting", {"one": TWO_RUNS, "other": TWO_RUNS[:1], "joints": "b"},
         {"one": FAR_12, "other": FAR_12[::-1], "joints": "wxy"}),
    ],
    "farroads": [
        ("far_lie", {"one": TWO_RUNS, "other": TWO_RUNS[::-1], "prices": [("a", 1), ("b", 1)], "number": 0},
         {"one": FAR_12, "other": FAR_12[::-1], "prices": SIX_FIGURES, "number": 10 ** 30 - 1}),
        ("far_cheapest", {"one": TWO_RUNS, "other": TWO_RUNS[::-1], "prices": [("a", 1), ("b", 1)]},
         {"one": FAR_12, "other": FAR_12[::-1], "prices": SIX_FIGURES}),
        ("family_word", {"family": UP, "n": 2}, {"family": FAMILY, "n": 10 ** 30 - 1}),
        ("family_parting", {"one": UP, "other": DOWN, "joints": "ac"}, {"one": FAMILY, "other": OTHER, "joints": "xyz"}),
        ("family_price", {"one": UP, "other": DOWN, "prices": [("a", 1), ("b", 1), ("c", 1)]},
         {"one": FAMILY, "other": OTHER, "prices": [("w", 9), ("x", 8), ("y", 9), ("z", 8)]}),
    ],
    "lines": [
        ("line_of", {"prices": FEES, "word": "axbyc"}, {"prices": ALL_FEES, "word": LONGEST}),
        ("of_line", {"line": "x=3,y=1:axbyc"}, {"line": LINE}),
        ("right_part", {"line": "x=3,a=1:b"}, {"line": ":" + "x" * 1999}),
    ],
    "book": [
        ("SwapBook", {"prices": FEES, "word": "axbyc"}, {"prices": ALL_FEES, "word": LONGEST[:60]}),
        ("is_step", {"book": SwapBook(FEES, "axbyc"), "value": ("swap", 1)},
         {"book": SwapBook(ALL_FEES, LONGEST[:60]), "value": ("price", "x", 10 ** 30 - 1)}),
    ],
}
# Each class with the methods that the interface lists for it.
METHODS = {
    Machine: ["letters", "moves", "ends"],
    SwapBook: ["prices", "word", "spent", "do", "undo", "redo", "log", "copy", "cost_to", "waste", "cheap_steps"],
}
# Also what is refused at the limits is refused in time.
REFUSED = [
    ("closures", "within_one", Machine("abcd", [[0, 1, 2, 0], [1, 1, 0, 2], [2, 0, 1, 1]], [0]), "abd"),
    ("closures", "firm_one", Machine("abcd", [[0, 1, 2, 0], [1, 1, 0, 2], [2, 0, 1, 1]], [0, 1]), "bcd"),
    ("machines", "led_out", Machine("ab", [[1, 1], [2, 0]] + [[k + 1, k] for k in range(2, 11)] + [[0, 11]], [0]), "ab"),
    ("trains", "trains_of", ["xy" * 12] * 12, "xy"), ("farthest", "spread", "xy" * 150, "xy"),
    ("bookpairs", "parting_words", "a", "b", ALPHABET, 60), ("lengths", "first_words", ALPHABET, ALPHABET, 12),
    ("blocks", "block_orders", LONGEST[:60], ALPHABET, [1, 2, 3], 0),
]


def each_call():
    """Each function of the interface with its arguments, ordinary ones and those at its limits."""
    for module, calls in CALLS.items():
        found = importlib.import_module("sideswaps." + module)
        for name, ordinary, largest in calls:
            yield getattr(found, name), ordinary, largest


def too_slow(number, frame):
    """What the alarm does."""
    raise AssertionError("a call at the limits takes too long")


def lists_in(value):
    """All lists within a value."""
    if isinstance(value, (list, tuple)):
        inner = [each for item in value for each in lists_in(item)]
        return ([value] if isinstance(value, list) else []) + inner
    return []


class GeneralTest(unittest.TestCase):
    def setUp(self):
        signal.signal(signal.SIGALRM, too_slow)
        signal.alarm(6 * SECONDS)

    def tearDown(self):
        signal.alarm(0)

    def test_names(self):
        for function, ordinary, _ in each_call():
            self.assertEqual(list(inspect.signature(function).parameters), list(ordinary), function.__name__)

    def test_defined_where_listed(self):
        for module, calls in CALLS.items():
            found = importlib.import_module("sideswaps." + module)
            for name, _, _ in calls:
                self.assertEqual(getattr(found, name).__module__, "sideswaps." + module)

    def test_by_name_and_by_position(self):
        for function, ordinary, _ in each_call():
            self.assertEqual(function(**ordinary), function(*ordinary.values()), function.__name__)

    def test_arguments_stay(self):
        for function, ordinary, largest in each_call():
            for arguments in (ordinary, largest):
                kept = copy.deepcopy(arguments)
                function(**arguments)
                self.assertEqual(arguments, kept, function.__name__)

    def test_told_lists_may_be_changed(self):
        for function, ordinary, _ in each_call():
            arguments = copy.deepcopy(ordinary)
            told = function(**arguments)
            kept = copy.deepcopy(told)
            found = lists_in(told)
            self.assertEqual(len({id(each) for each in found}), len(found), function.__name__)
            for each in found:
                each.append("changed")
            self.assertEqual(arguments, ordinary, function.__name__)
            self.assertEqual(function(**arguments), kept, function.__name__)

    def test_kinds_of_values(self):
        for function, ordinary, largest in each_call():
            for arguments in (ordinary, largest):
                self.check_kinds(function(**arguments))

    def check_kinds(self, value):
        self.assertIn(value.__class__, (type(None), bool, str, int, tuple, list, Machine, SwapBook))
        if isinstance(value, (list, tuple)):
            for item in value:
                self.check_kinds(item)

    def test_methods_stand_in_their_class(self):
        for each, names in METHODS.items():
            for name in names + ["__init__", "__eq__"]:
                self.assertIn(name, vars(each))
        parameters = {name: list(inspect.signature(getattr(SwapBook, name)).parameters) for name in METHODS[SwapBook]}
        self.assertEqual([parameters[name] for name in ("do", "cost_to", "cheap_steps", "undo", "copy")],
                         [["self", "step"], ["self", "other"], ["self", "other"], ["self"], ["self"]])

    def test_refused_within_seconds(self):
        for module, name, *arguments in REFUSED:
            begun = time.perf_counter()
            with self.assertRaises(TooMany, msg=name):
                getattr(importlib.import_module("sideswaps." + module), name)(*arguments)
            self.assertLess(time.perf_counter() - begun, SECONDS, name)

    def test_whether(self):
        for function, ordinary, _ in each_call():
            if "value" in ordinary:
                for value in [None, True, False, 0, 1, -1, 10 ** 29, "", "a", "~", [], [[]], (), {}, {"x": 1}]:
                    self.assertIn(function(**{**ordinary, "value": value}), (True, False))
                    self.assertIsInstance(function(**{**ordinary, "value": value}), bool)

    def test_within_seconds(self):
        for function, _, largest in each_call():
            begun = time.perf_counter()
            function(**largest)
            self.assertLess(time.perf_counter() - begun, SECONDS, function.__name__)


if __name__ == "__main__":
    unittest.main()
