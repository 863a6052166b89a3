"""How often letters stand in the words of a class."""

from math import gcd

from sideswaps.errors import InvalidNumber, InvalidWord
from sideswaps.patterns import how_many_having, patterns
from sideswaps.sizes import class_size
from sideswaps.words import check_joints, check_word, is_count, is_word


def how_many_with(word, joints, place, text):
    """How many words of the class of a word have the letters of a text from a place on."""
    check_word(word)
    check_joints(joints)
    if not is_count(place) or place > len(word):
        raise InvalidNumber(place)
    check_word(text)
    return how_many_having(patterns(word, joints), word, joints, place, text)


def letters_at(word, joints, place):
    """The letters that words of the class of a word have at a place, and how many of them do."""
    check_word(word)
    check_joints(joints)
    if not is_count(place) or place >= len(word):
        raise InvalidNumber(place)
    rows = patterns(word, joints)
    found = [(letter, how_many_having(rows, word, joints, place, letter)) for letter in sorted(set(word))]
    return [item for item in found if item[1] > 0]


def mean_of(word, joints, text):
    """At how many places a word of the class of a word has the letters of a text from there on, on an average."""
    size = class_size(word, joints)
    if not is_word(text) or text == "":
        raise InvalidWord(text)
    rows = patterns(word, joints)
    total = sum([how_many_having(rows, word, joints, place, text) for place in range(len(word))])
    common = gcd(total, size)
    return (total // common, size // common)
