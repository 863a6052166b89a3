"""Which words come of which."""

from sideswaps.errors import InvalidList
from sideswaps.laying import joints_even, lies_leading, road_by
from sideswaps.patterns import filled, letters_held, numbers_by_class, patterns, texts_over
from sideswaps.rings import star_ring, starred
from sideswaps.words import check_joints, check_two, check_word, done, is_count, is_letter, is_road

LETTERS = "abcdefghijklmnopqrstuvwxyz"


def comes(one, other, joints):
    """Whether one word comes to another one."""
    return bar(one, other, joints) is None


def bar(one, other, joints):
    """What keeps two words apart; None if the one comes to the other."""
    check_two(one, other, joints)
    first, second = star_ring(one, joints), star_ring(other, joints)
    if first != second:
        return ("ring", first, second)
    for letter in joints:
        if one.count(letter) != other.count(letter):
            return ("joint", letter, one.count(letter), other.count(letter))
    return None


def is_bar(one, other, joints, value):
    """Whether a value is a tuple that keeps two words apart."""
    check_two(one, other, joints)
    if not isinstance(value, tuple):
        return False
    if len(value) == 4:
        return _is_joint_bar(one, other, joints, value)
    first, second = star_ring(one, joints), star_ring(other, joints)
    return first != second and value == ("ring", first, second)


def _is_joint_bar(one, other, joints, value):
    """Whether a tuple of four tells of a joint that does not stand in both words equally often."""
    kind, letter, first, second = value
    if kind != "joint" or not is_letter(letter) or letter not in joints:
        return False
    # A Boolean is equal to a number in Python, but it is none.
    if not is_count(first) or not is_count(second):
        return False
    return first == one.count(letter) and second == other.count(letter) and first != second


def road(one, other, joints):
    """A road from one word to another one, None if there is none."""
    check_two(one, other, joints)
    found = lies_leading(one, other, joints)
    if not found:
        return None
    # Equal words have the lie 0, which is the first one and needs no deed.
    return road_by(one, other, found[0])


def leads_to(one, other, joints, value):
    """Whether a value is a road that leads from one word to another one."""
    check_two(one, other, joints)
    return is_road(one, joints, value) and done(one, joints, value) == other


def first_word(word, joints):
    """The first word of the class of a word."""
    check_word(word)
    check_joints(joints)
    held = letters_held(word, joints)
    return min([filled(pattern, held) for pattern in patterns(word, joints)])


def last_word(word, joints):
    """The last word of the class of a word."""
    check_word(word)
    check_joints(joints)
    held = letters_held(word, joints)[::-1]
    return max([filled(pattern, held) for pattern in patterns(word, joints)])


def classes_of(words, joints):
    """The lists of the numbers of those words in a list that belong to one class."""
    if not isinstance(words, list):
        raise InvalidList(words)
    for word in words:
        check_word(word)
    check_joints(joints)
    return numbers_by_class(words, joints)


def parted_by(one, other, joints):
    """The first words around two words with which the one does not come to the other; None if all let it."""
    check_two(one, other, joints)
    if starred(one, joints) == starred(other, joints) and joints_even(one, other, joints):
        return None
    size = 0
    parting = None
    while parting is None:
        parting = _parted_within(one, other, joints, size)
        size += 1
    return parting


def _parted_within(one, other, joints, size):
    """The first words around two words, of so many letters together, that part them; None if there are none."""
    for ahead in range(size + 1):
        for front in texts_over(LETTERS, ahead):
            for back in texts_over(LETTERS, size - ahead):
                if not comes(front + one + back, front + other + back, joints):
                    return (front, back)
    return None
