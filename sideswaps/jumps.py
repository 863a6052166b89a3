"""Jumps of told widths: which deeds they let, and how many words come of one whose letters are all unlike joints."""

from math import factorial, gcd

from sideswaps.errors import InvalidList, InvalidNumber
from sideswaps.words import LONGEST, check_joints, check_word, is_count, is_road, open_places


def check_widths(value):
    """Refuse what is no ascending list of whole numbers of at least 1."""
    if not isinstance(value, list) or not all([is_count(width) and width >= 1 for width in value]):
        raise InvalidList(value)
    if not all([first < second for first, second in zip(value, value[1:])]):
        raise InvalidList(value)


def check_jumps(word, joints, widths):
    """Refuse what is no word, then what are no joints, then what are no widths."""
    check_word(word)
    check_joints(joints)
    check_widths(widths)


def check_two_jumps(one, other, joints, widths):
    """Refuse what is no word, then what is no word, then what are no joints, then what are no widths."""
    check_word(one)
    check_jumps(other, joints, widths)


def _lets(size, widths):
    """For each place of a word of so many letters whether widths let the deed at it."""
    wide = {width: True for width in widths}
    return [place + 1 in wide or size - place in wide for place in range(size)]


def let_places(word, joints, widths):
    """The places of a word, in order, at which a deed can be done and is let."""
    check_jumps(word, joints, widths)
    lets = _lets(len(word), widths)
    return [place for place in open_places(word, joints) if lets[place]]


def is_let_road(word, joints, widths, value):
    """Whether a value is a road all of whose deeds are let."""
    check_jumps(word, joints, widths)
    lets = _lets(len(word), widths)
    return is_road(word, joints, value) and all([lets[place] for place in value])


def shuffle(length, widths):
    """What let deeds make of a word whose letters are all joints, and all unlike, and of how many words."""
    if not is_count(length) or length > LONGEST:
        raise InvalidNumber(length)
    check_widths(widths)
    cells = length + 1
    kept = [width for width in widths if width < cells]
    if not kept:
        return ("none", 1)
    shared = cells
    for width in kept:
        shared = gcd(shared, width)
    stars = cells // shared
    # If the widths have a divisor in common with the ring, the hole goes to some cells alone, and the ring can be
    # turned so that these are others.
    turns = stars if shared > 1 else 1
    if len(kept) == 1 or len(kept) == 2 and sum(kept) == cells:
        return ("round", (stars - 1) * turns)
    orders = factorial(stars - 1) * turns
    if stars % 2 == 0 and all([width // shared % 2 == 1 for width in kept]):
        return ("even", orders // 2)
    return ("all", orders)
