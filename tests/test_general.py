"""Points 1 to 4: names, arguments that stay as they are, new lists, kinds of values, and time."""

import copy
import importlib
import inspect
import signal
import time
import unittest

# How long one call at the limits may take, far above what it does take.
SECONDS = 10
FEES = [("x", 3), ("y", 5)]
ALPHABET = "abcdefghijklmnopqrstuvwxyz"
ALL_FEES = [(letter, 10 ** 30 - 1 - k) for k, letter in enumerate(ALPHABET)]
LONGEST = (ALPHABET * 12)[:300]
# A ring of 200 stars that 20 turnings leave as it is.
RING_OF_20 = ("x" * 10 + "a") * 20
# The interface: for each module each function with arguments by name, and with arguments at its limits.
CALLS = {
    "words": [
        ("is_word", {"value": "ax"}, {"value": "ax" * 150}),
        ("is_joints", {"value": "xy"}, {"value": "abcdefghijklmnopqrstuvwxyz"}),
        ("is_prices", {"value": FEES}, {"value": [("x", 10 ** 30 - 1)]}),
        ("is_ahead", {"one": "ax", "other": "ay"}, {"one": "ax" * 150, "other": "ay" * 150}),
        ("joints_of", {"prices": FEES}, {"prices": [("x", 10 ** 30 - 1)]}),
        ("open_places", {"word": "axbyc", "joints": "xy"}, {"word": "xy" * 150, "joints": "xy"}),
        ("swapped", {"word": "axbyc", "joints": "xy", "place": 1}, {"word": "xy" * 150, "joints": "xy", "place": 299}),
        ("is_road", {"word": "axbyc", "joints": "xy", "value": [1, 1]},
         {"word": "xy" * 150, "joints": "xy", "value": [7] * 1000}),
        ("done", {"word": "axbyc", "joints": "xy", "road": [1, 1]},
         {"word": "xy" * 150, "joints": "xy", "road": [7] * 1000}),
        ("passed", {"word": "axbyc", "joints": "xy", "road": [1, 1]},
         {"word": "xy" * 150, "joints": "xy", "road": [7] * 100}),
        ("back_road", {"size": 5, "road": [1, 1]}, {"size": 300, "road": [7] * 1000}),
        ("price_of", {"word": "axbyc", "prices": FEES, "road": [1, 1]},
         {"word": "xy" * 150, "prices": [("x", 10 ** 30 - 1), ("y", 1)], "road": [7] * 1000}),
        ("moved", {"word": "axbyc", "joints": "xy", "road": [1, 1]},
         {"word": "xy" * 150, "joints": "xy", "road": [7] * 1000}),
    ],
    "rings": [
        ("star_ring", {"word": "axbyc", "joints": "xy"}, {"word": "xy" * 150, "joints": "xy"}),
        ("ring_turns", {"word": "axbyc", "joints": "xy"}, {"word": "xy" * 150, "joints": "xy"}),
        ("is_star_ring", {"value": "*a"}, {"value": "*" * 301}),
        ("one_deed", {"word": "axbyc", "joints": "xy"}, {"word": "xyz" * 100, "joints": "xy"}),
        ("is_alone", {"word": "axbyc", "joints": "xy"}, {"word": "x" * 300, "joints": "x"}),
    ],
    "classes": [
        ("comes", {"one": "axy", "other": "yxa", "joints": "xy"},
         {"one": "xay" * 100, "other": "yax" * 100, "joints": "xy"}),
        ("bar", {"one": "axa", "other": "yxa", "joints": "xy"},
         {"one": "xay" * 100, "other": "yay" * 100, "joints": "xy"}),
        ("is_bar", {"one": "ax", "other": "ay", "joints": "xy", "value": ("joint", "y", 0, 1)},
         {"one": "xay" * 100, "other": "yay" * 100, "joints": "xy", "value": ("joint", "x", 100, 0)}),
        ("road", {"one": "axbyc", "other": "cxayb", "joints": "xy"},
         {"one": "xy" * 30, "other": "yx" * 30, "joints": "xy"}),
        ("leads_to", {"one": "axbyc", "other": "cxayb", "joints": "xy", "value": [1, 1]},
         {"one": "xy" * 150, "other": "xy" * 150, "joints": "xy", "value": [7] * 1000}),
        ("first_word", {"word": "axbyc", "joints": "xy"}, {"word": "xy" * 150, "joints": "xy"}),
        ("last_word", {"word": "axbyc", "joints": "xy"}, {"word": "xy" * 150, "joints": "xy"}),
        ("classes_of", {"words": ["ax", "by", "xa"], "joints": "xy"},
         {"words": ["x" * k + "y" * (300 - k) for k in range(200)], "joints": "xy"}),
        ("parted_by", {"one": "axy", "other": "xay", "joints": "xy"},
         {"one": "abcdefgz", "other": "zabcdefg", "joints": "abcdefghijklmnopq"}),
    ],
    "sizes": [
        ("class_size", {"word": "axbyc", "joints": "xy"}, {"word": LONGEST, "joints": ALPHABET}),
        ("class_words", {"word": "axbyc", "joints": "xy"}, {"word": "y" + RING_OF_20[2:], "joints": "xy"}),
        ("parts_by", {"word": "axbyc", "joints": "xy", "fewer": "x"},
         {"word": "xy" * 149 + "x", "joints": "xy", "fewer": "x"}),
    ],
    "numbering": [
        ("how_many_ahead", {"word": "xay", "joints": "xy", "text": "xay"},
         {"word": LONGEST[:60], "joints": ALPHABET, "text": LONGEST[59::-1]}),
        ("word_numbered", {"word": "xay", "joints": "xy", "number": 3},
         {"word": LONGEST[:60], "joints": ALPHABET, "number": 10 ** 30 - 1}),
        ("next_word", {"word": "xay", "joints": "xy"}, {"word": LONGEST[:60], "joints": ALPHABET}),
        ("first_from", {"word": "xay", "joints": "xy", "text": "b"},
         {"word": LONGEST[:60], "joints": ALPHABET, "text": LONGEST[59::-1]}),
    ],
    "means": [
        ("how_many_with", {"word": "xay", "joints": "xy", "place": 0, "text": "a"},
         {"word": LONGEST[:60], "joints": ALPHABET, "place": 7, "text": "zab"}),
        ("letters_at", {"word": "xax", "joints": "x", "place": 0},
         {"word": LONGEST[:60], "joints": ALPHABET, "place": 59}),
        ("mean_of", {"word": "xay", "joints": "xy", "text": "xy"},
         {"word": LONGEST[:60], "joints": ALPHABET, "text": "zab"}),
    ],
    "lengths": [
        ("how_many_classes", {"letters": "abx", "joints": "x", "length": 2},
         {"letters": ALPHABET, "joints": ALPHABET[::2], "length": 200}),
        ("classes_by_size", {"letters": "abx", "joints": "x", "length": 2},
         {"letters": ALPHABET, "joints": "abc", "length": 24}),
        ("how_many_pairs", {"letters": "abx", "joints": "x", "length": 2},
         {"letters": ALPHABET, "joints": "abc", "length": 60}),
        ("first_words", {"letters": "abx", "joints": "x", "length": 2},
         {"letters": "ax", "joints": "x", "length": 12}),
    ],
    "fewest": [
        ("lies", {"one": "axa", "other": "axa", "joints": "x"}, {"one": "x" * 300, "other": "y" * 300, "joints": "xy"}),
        ("lots", {"one": "axby", "other": "aybx", "prices": FEES, "lie": 0},
         {"one": LONGEST, "other": LONGEST[::-1], "prices": ALL_FEES, "lie": 300}),
        ("lie_value", {"one": "axby", "other": "aybx", "prices": FEES, "lie": 0},
         {"one": LONGEST, "other": LONGEST[::-1], "prices": ALL_FEES, "lie": 300}),
        ("cheapest", {"one": "axby", "other": "aybx", "prices": FEES},
         {"one": LONGEST, "other": LONGEST[::-1], "prices": ALL_FEES}),
        ("fewest_deeds", {"one": "axby", "other": "aybx", "joints": "xy"},
         {"one": LONGEST, "other": LONGEST[::-1], "joints": ALPHABET}),
        ("one_deed_less", {"one": "axby", "other": "aybx", "prices": FEES, "lie": 0},
         {"one": LONGEST, "other": LONGEST[::-1], "prices": ALL_FEES, "lie": 300}),
        ("price_line", {"one": "axby", "other": "aybx", "prices": FEES, "letter": "x"},
         {"one": LONGEST[:60], "other": LONGEST[59::-1], "prices": ALL_FEES, "letter": "c"}),
    ],
}


def each_call():
    """Each function of the interface with its arguments, ordinary ones and those at its limits."""
    for module, calls in CALLS.items():
        found = importlib.import_module("sideswaps." + module)
        for name, ordinary, largest in calls:
            yield getattr(found, name), ordinary, largest


def too_slow(number, frame):
    """What the alarm does."""
    raise AssertionError("a call at the limits takes too long")


def lists_in(value):
    """All lists within a value."""
    if isinstance(value, (list, tuple)):
        inner = [each for item in value for each in lists_in(item)]
        return ([value] if isinstance(value, list) else []) + inner
    return []


class GeneralTest(unittest.TestCase):
    def setUp(self):
        signal.signal(signal.SIGALRM, too_slow)
        signal.alarm(6 * SECONDS)

    def tearDown(self):
        signal.alarm(0)

    def test_names(self):
        for function, ordinary, _ in each_call():
            self.assertEqual(list(inspect.signature(function).parameters), list(ordinary), function.__name__)

    def test_defined_where_listed(self):
        for module, calls in CALLS.items():
            found = importlib.import_module("sideswaps." + module)
            for name, _, _ in calls:
                self.assertEqual(getattr(found, name).__module__, "sideswaps." + module)

    def test_by_name_and_by_position(self):
        for function, ordinary, _ in each_call():
            self.assertEqual(function(**ordinary), function(*ordinary.values()), function.__name__)

    def test_arguments_stay(self):
        for function, ordinary, largest in each_call():
            for arguments in (ordinary, largest):
                kept = copy.deepcopy(arguments)
                function(**arguments)
                self.assertEqual(arguments, kept, function.__name__)

    def test_told_lists_may_be_changed(self):
        for function, ordinary, _ in each_call():
            arguments = copy.deepcopy(ordinary)
            told = function(**arguments)
            kept = copy.deepcopy(told)
            found = lists_in(told)
            self.assertEqual(len({id(each) for each in found}), len(found), function.__name__)
            for each in found:
                each.append("changed")
            self.assertEqual(arguments, ordinary, function.__name__)
            self.assertEqual(function(**arguments), kept, function.__name__)

    def test_kinds_of_values(self):
        for function, ordinary, largest in each_call():
            for arguments in (ordinary, largest):
                self.check_kinds(function(**arguments))

    def check_kinds(self, value):
        self.assertIn(value.__class__, (type(None), bool, str, int, tuple, list))
        if isinstance(value, (list, tuple)):
            for item in value:
                self.check_kinds(item)

    def test_whether(self):
        for function, ordinary, _ in each_call():
            if "value" in ordinary:
                for value in [None, True, False, 0, 1, -1, 10 ** 29, "", "a", "~", [], [[]], (), {}, {"x": 1}]:
                    self.assertIn(function(**{**ordinary, "value": value}), (True, False))
                    self.assertIsInstance(function(**{**ordinary, "value": value}), bool)

    def test_within_seconds(self):
        for function, _, largest in each_call():
            begun = time.perf_counter()
            function(**largest)
            self.assertLess(time.perf_counter() - begun, SECONDS, function.__name__)


if __name__ == "__main__":
    unittest.main()
