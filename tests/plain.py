"""What the tests hold the program against: deeds tried one after the other, and wrong arguments."""

import copy
import heapq
import itertools

NOT_WORDS = [None, True, 3, "aB", "a b", "a_", "*", "`", "{", "a1", ["a"], ("a",), {"a": 1}]
NOT_JOINTS = NOT_WORDS + ["yx", "xx", "axx"]
NOT_PRICES = [
    None, True, 1, "x", {"x": 1}, (("x", 1),), [["x", 1]], [("x", 0)], [("x", True)], [("x", -1)], [("xy", 1)],
    [("", 1)], [("X", 1)], [("y", 1), ("x", 1)], [("x", 1), ("x", 2)], [("x",)], [("x", 1, 1)], ["x1"],
    [("x", "1")], [(1, "x")], [None], [("x", 1), None], [(["x"], 1)],
]
NOT_COUNTS = [None, True, False, -1, "1", "", [1], (1,), {}]
NOT_LISTS = [None, True, 1, "ab", ("a",), {"a": 1}]


def words_over(letters, size):
    """All words of so many letters."""
    return ["".join(each) for each in itertools.product(letters, repeat=size)]


def words_up_to(letters, size):
    """All words of at most so many letters, in the order of words."""
    return [word for many in range(size + 1) for word in words_over(letters, many)]


def plain_deed(word, place):
    """The word that the deed at a place makes, by the words of the document."""
    ahead, joint, behind = word[:place], word[place], word[place + 1:]
    return behind + joint + ahead


def plain_far(word, prices):
    """The least price of a road to each word that comes of a word, deed after deed tried."""
    costs = dict(prices)
    least = {}
    queue = [(0, word)]
    while queue:
        price, here = heapq.heappop(queue)
        if here in least:
            continue
        least[here] = price
        for place, letter in enumerate(here):
            if letter in costs:
                heapq.heappush(queue, (price + costs[letter], plain_deed(here, place)))
    return least


def plain_class(word, joints):
    """All words that come of a word, in order, deed after deed tried."""
    return sorted(plain_far(word, [(letter, 1) for letter in joints]))


def plain_classes(words, joints):
    """For each of some words, which hold each class whole, its class."""
    found = {}
    for word in words:
        if word not in found:
            members = plain_class(word, joints)
            for each in members:
                found[each] = members
    return found


def check_refusals(case, function, good, wrong):
    """Each wrong argument is refused by its error; of two wrong ones the first.

    good: the arguments by name, in order; wrong: for some of them the error and the values it is raised for.
    """
    names = list(good)
    for name, (error, values) in wrong.items():
        for value in values:
            _check_refused(case, function, {**good, name: value}, error, value)
            for later in names[names.index(name) + 1:]:
                if later in wrong:
                    both = {**good, name: value, later: wrong[later][1][0]}
                    _check_refused(case, function, both, error, value)


def _check_refused(case, function, arguments, error, value):
    for by_name in (False, True):
        kept = copy.deepcopy(arguments)
        with case.subTest(function=function.__name__, arguments=arguments):
            with case.assertRaises(error) as caught:
                if by_name:
                    function(**arguments)
                else:
                    function(*arguments.values())
            case.assertIs(caught.exception.__class__, error)
            case.assertIs(caught.exception.value, value)
            case.assertEqual(arguments, kept)
