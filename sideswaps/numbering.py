"""The words of a class, numbered in their order."""

from sideswaps.errors import InvalidNumber
from sideswaps.patterns import how_many_having, patterns
from sideswaps.sizes import class_size
from sideswaps.words import check_word, is_count


def how_many_ahead(word, joints, text):
    """How many words of the class of a word are ahead of another word."""
    size = class_size(word, joints)
    check_word(text)
    if len(text) != len(word):
        return size if len(text) > len(word) else 0
    rows, letters = patterns(word, joints), sorted(set(word))
    many = 0
    for place, letter in enumerate(text):
        # Ahead are those that have the same letters up to a place, and there an earlier one.
        for less in letters:
            if less < letter:
                many += how_many_having(rows, word, joints, 0, text[:place] + less)
    return many


def word_numbered(word, joints, number):
    """The word of the class of a word that has so many words of it ahead."""
    size = class_size(word, joints)
    if not is_count(number) or number >= size:
        raise InvalidNumber(number)
    return _word_behind(word, joints, number)


def _word_behind(word, joints, number):
    """The word of a class that has so many words of it ahead, if there are so many."""
    rows, letters = patterns(word, joints), sorted(set(word))
    text, ahead = "", number
    while len(text) < len(word):
        for letter in letters:
            many = how_many_having(rows, word, joints, 0, text + letter)
            if ahead < many:
                text += letter
                break
            ahead -= many
    return text


def next_word(word, joints):
    """The first word of the class of a word behind the word itself, None if it is the last one."""
    return _numbered_or_none(word, joints, how_many_ahead(word, joints, word) + 1)


def first_from(word, joints, text):
    """The first word of the class of a word that is not ahead of another word, None if all are."""
    return _numbered_or_none(word, joints, how_many_ahead(word, joints, text))


def _numbered_or_none(word, joints, number):
    """The word of a class that has so many words of it ahead, None if there is none."""
    return _word_behind(word, joints, number) if number < class_size(word, joints) else None
