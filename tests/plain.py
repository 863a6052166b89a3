"""What the tests hold the program against: deeds tried one after the other, and wrong arguments."""

import copy
import heapq
import itertools

from sideswaps.machines import Machine

NOT_WORDS = [None, True, 3, "aB", "a b", "a_", "*", "`", "{", "a1", ["a"], ("a",), {"a": 1}]
NOT_JOINTS = NOT_WORDS + ["yx", "xx", "axx"]
NOT_PRICES = [
    None, True, 1, "x", {"x": 1}, (("x", 1),), [["x", 1]], [("x", 0)], [("x", True)], [("x", -1)], [("xy", 1)],
    [("", 1)], [("X", 1)], [("y", 1), ("x", 1)], [("x", 1), ("x", 2)], [("x",)], [("x", 1, 1)], ["x1"],
    [("x", "1")], [(1, "x")], [None], [("x", 1), None], [(["x"], 1)],
]
NOT_TRAINS = [
    None, True, 1, "ab", ("ab",), {"ab": 1}, [], [None], [1], ["aB"], ["a_"], ["ab", "_"], ["ab", ["c"]], [("ab",)],
    ["a"] * 13, ["ab", "c", True],
]
NOT_MACHINES = [None, True, 1, "ax", [], ("ax", [[0, 0]], [0]), ["ax", [[0, 0]], [0]], {"ax": 1}]
NOT_COUNTS = [None, True, False, -1, "1", "", [1], (1,), {}]
NOT_LISTS = [None, True, 1, "ab", ("a",), {"a": 1}]


def words_over(letters, size):
    """All words of so many letters."""
    return ["".join(each) for each in itertools.product(letters, repeat=size)]


def words_up_to(letters, size):
    """All words of at most so many letters, in the order of words."""
    return [word for many in range(size + 1) for word in words_over(letters, many)]


def plain_deed(word, place):
    """The word that the deed at a place makes, by the words of the document."""
    ahead, joint, behind = word[:place], word[place], word[place + 1:]
    return behind + joint + ahead


def plain_far(word, prices):
    """The least price of a road to each word that comes of a word, deed after deed tried."""
    costs = dict(prices)
    least = {}
    queue = [(0, word)]
    while queue:
        price, here = heapq.heappop(queue)
        if here in least:
            continue
        least[here] = price
        for place, letter in enumerate(here):
            if letter in costs:
                heapq.heappush(queue, (price + costs[letter], plain_deed(here, place)))
    return least


def plain_class(word, joints):
    """All words that come of a word, in order, deed after deed tried."""
    return sorted(plain_far(word, [(letter, 1) for letter in joints]))


def plain_classes(words, joints):
    """For each of some words, which hold each class whole, its class."""
    found = {}
    for word in words:
        if word not in found:
            members = plain_class(word, joints)
            for each in members:
                found[each] = members
    return found


def plain_cheapest_roads(one, other, prices):
    """All roads that cost least, by going on from each word only with what can still be as cheap."""
    costs = dict(prices)
    left = plain_far(other, prices)
    found = []
    queue = [(one, [])] if one in left else []
    while queue:
        word, road = queue.pop()
        if word == other:
            found.append(road)
            continue
        for place, letter in enumerate(word):
            if letter in costs:
                made = plain_deed(word, place)
                if left[made] == left[word] - costs[letter]:
                    queue.append((made, road + [place]))
    return sorted(found)


def books_over(letters):
    """All books of some letters, in the order of words."""
    letters = sorted(set(letters))
    return ["".join(each) for many in range(len(letters) + 1) for each in itertools.combinations(letters, many)]


def plain_turnings(train):
    """All turnings of a train."""
    return [train[k:] + train[:k] for k in range(len(train))]


def plain_first(train):
    """The first turning of a train, as a tuple."""
    return tuple(min(plain_turnings(list(train))))


def plain_train_deeds(train, joints):
    """All train deeds of a train, in order."""
    return [(car, place, gap) for car in range(len(train)) for place in range(len(train[car]))
            for gap in range(len(train)) if train[car][place] in joints]


def plain_train_deed(train, deed):
    """The train that a train deed makes, sign by sign."""
    car, place, gap = deed
    signs = []
    for number, word in enumerate(train):
        for spot, letter in enumerate(word):
            if (number, spot) == (car, place):
                start = len(signs)
            signs.append(letter)
        if number == gap:
            hole = len(signs)
        signs.append("_")
    signs[start], signs[hole] = signs[hole], signs[start]
    while signs[-1] != "_":
        signs.insert(0, signs.pop())
    return "".join(signs)[:-1].split("_")


def plain_train_far(train, prices):
    """The least price of a road to each first train that comes of a train, deed after deed tried."""
    costs = dict(prices)
    least = {}
    queue = [(0, plain_first(train))]
    while queue:
        price, here = heapq.heappop(queue)
        if here in least:
            continue
        least[here] = price
        for deed in plain_train_deeds(here, costs):
            made = plain_first(plain_train_deed(list(here), deed))
            heapq.heappush(queue, (price + costs[here[deed[0]][deed[1]]], made))
    return least


def trains_up_to(letters, words, size):
    """All trains of so many words that have at most so many letters together."""
    found = []
    for text in words_up_to(letters, size):
        for cuts in itertools.combinations_with_replacement(range(len(text) + 1), words - 1):
            ends = [0] + list(cuts) + [len(text)]
            found.append([text[start:end] for start, end in zip(ends, ends[1:])])
    return found


def drawn_machine(draw, letters, states):
    """Any machine with so many states."""
    moves = [[draw.randrange(states) for _ in letters] for _ in range(states)]
    return Machine(letters, moves, [state for state in range(states) if draw.random() < 0.5])


def plain_lets(machine, word):
    """Whether a word is let, letter by letter."""
    state = 0
    for letter in word:
        if letter not in machine.letters():
            return False
        state = machine.moves()[state][machine.letters().index(letter)]
    return state in machine.ends()


def check_refusals(case, function, good, wrong):
    """Each wrong argument is refused by its error; of two wrong ones the first.

    good: the arguments by name, in order; wrong: for some of them the error and the values it is raised for.
    """
    names = list(good)
    for name, (error, values) in wrong.items():
        for value in values:
            _check_refused(case, function, {**good, name: value}, error, value)
            for later in names[names.index(name) + 1:]:
                if later in wrong:
                    both = {**good, name: value, later: wrong[later][1][0]}
                    _check_refused(case, function, both, error, value)


def _check_refused(case, function, arguments, error, value):
    for by_name in (False, True):
        kept = copy.deepcopy(arguments)
        with case.subTest(function=function.__name__, arguments=arguments):
            with case.assertRaises(error) as caught:
                if by_name:
                    function(**arguments)
                else:
                    function(*arguments.values())
            case.assertIs(caught.exception.__class__, error)
            case.assertIs(caught.exception.value, value)
            case.assertEqual(arguments, kept)


def is_let(size, place, widths):
    """Whether a deed at a place of a word of so many letters is let."""
    return place + 1 in widths or size - place in widths


def plain_let_class(word, joints, widths):
    """All words that come of a word by let deeds, deed after deed tried."""
    found, queue = {word}, [word]
    while queue:
        here = queue.pop()
        for place, letter in enumerate(here):
            if letter in joints and is_let(len(here), place, widths):
                made = plain_deed(here, place)
                if made not in found:
                    found.add(made)
                    queue.append(made)
    return found


def plain_let_rings(word, joints, widths):
    """All rings, read from the first cell on, that come of that of a word by let jumps, jump after jump tried."""
    found, queue = {word + "_"}, [word + "_"]
    while queue:
        here = queue.pop()
        hole, size = here.index("_"), len(here)
        for cell, sign in enumerate(here):
            if sign in joints and (abs(cell - hole) in widths or size - abs(cell - hole) in widths):
                signs = list(here)
                signs[hole], signs[cell] = sign, "_"
                made = "".join(signs)
                if made not in found:
                    found.add(made)
                    queue.append(made)
    return found
