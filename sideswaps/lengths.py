"""The classes of all words of one length."""

from math import comb, factorial

from sideswaps.classes import first_word
from sideswaps.counting import rings_by_turns, ways_to_share
from sideswaps.errors import InvalidWord, TooMany
from sideswaps.patterns import filled, texts_over
from sideswaps.rings import is_star_ring
from sideswaps.sizes import MOST_TOLD
from sideswaps.words import check_count, check_joints, is_joints


def _check_all(letters, joints, length):
    """Refuse what are no letters, then what are no joints, then what is no count."""
    if not is_joints(letters) or letters == "":
        raise InvalidWord(letters)
    check_joints(joints)
    check_count(length)


def _kinds(letters, joints):
    """How many of some letters are joints, and how many are none."""
    joined = len([letter for letter in letters if letter in joints])
    return joined, len(letters) - joined


def how_many_classes(letters, joints, length):
    """How many classes the words of a length over some letters fall into."""
    _check_all(letters, joints, length)
    joined, bodies = _kinds(letters, joints)
    many = 0
    for stars in range(1, length + 2):
        rings = sum([item[1] for item in rings_by_turns(length + 1, stars, bodies)])
        many += rings * ways_to_share(stars - 1, joined)
    return many


def classes_by_size(letters, joints, length):
    """How many of these classes have how many words."""
    _check_all(letters, joints, length)
    joined, bodies = _kinds(letters, joints)
    found = {}
    for (held, alike), ways in _shares(length, joined).items():
        orders = factorial(held) // alike
        for turns, rings in rings_by_turns(length + 1, held + 1, bodies):
            # The hole has all stars to stand on, but turnings lead some of them to one another.
            size = (held + 1) // turns * orders
            found[size] = found.get(size, 0) + rings * ways
    return [(size, found[size]) for size in sorted(found) if found[size] > 0]


def _shares(most, joined):
    """In how many ways letters, at most so many, can be shared among so many joints.

    They are told by how many letters they are, and by how many orders of them change nothing.
    """
    ways = {(0, 1): 1}
    for _ in range(joined):
        more = {}
        for (held, alike), many in ways.items():
            for count in range(most - held + 1):
                key = (held + count, alike * factorial(count))
                more[key] = more.get(key, 0) + many
        ways = more
    return ways


def how_many_pairs(letters, joints, length):
    """How many tuples of two words of a length there are of which the one comes to the other."""
    _check_all(letters, joints, length)
    joined, bodies = _kinds(letters, joints)
    squares = _squares(length, joined)
    many = 0
    for stars in range(1, length + 2):
        for turns, rings in rings_by_turns(length + 1, stars, bodies):
            many += rings * (stars // turns) ** 2 * squares[stars - 1]
    return many


def _squares(most, joined):
    """For each count up to one: the squares, added up over all shares of it, of how many orders a share has."""
    sums = [1] + [0] * most
    for _ in range(joined):
        sums = [
            sum([comb(held, count) ** 2 * sums[held - count] for count in range(held + 1)])
            for held in range(most + 1)
        ]
    return sums


def first_words(letters, joints, length):
    """The first words, in order, of all these classes."""
    many = how_many_classes(letters, joints, length)
    if many > MOST_TOLD:
        raise TooMany(many)
    kept = "".join([letter for letter in letters if letter in joints])
    bodies = [letter for letter in letters if letter not in joints]
    # Without joints no ring has a second star, and without this there were too many texts to look at.
    signs = (["*"] if kept else []) + bodies
    found = []
    for text in texts_over(signs, length):
        if is_star_ring("*" + text):
            for share in _shares_told(kept, text.count("*")):
                found.append(first_word(filled(text, list(share)), joints))
    return sorted(found)


def _shares_told(letters, many):
    """All texts of so many of some letters in which they are in order."""
    texts = [""]
    for _ in range(many):
        texts = [text + letter for text in texts for letter in letters if text[-1:] <= letter]
    return texts
