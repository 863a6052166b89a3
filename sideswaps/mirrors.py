"""Mirrors: letters at which the whole word is read backwards."""

from sideswaps.classes import comes
from sideswaps.errors import InvalidJoints, InvalidPrices
from sideswaps.laying import least_lies
from sideswaps.sizes import class_size
from sideswaps.words import check_joints, check_two_priced, check_word, is_joints, is_prices, letters_priced


def _has_one_of(letters, signs):
    """Whether one of some letters is among some signs."""
    return any([letter in signs for letter in letters])


def _check_mirrors(joints, mirrors):
    """Refuse what are no joints, then what are no letters that are mirrors beside them."""
    check_joints(joints)
    if not is_joints(mirrors) or _has_one_of(mirrors, joints):
        raise InvalidJoints(mirrors)


def comes_mirrored(word, other, joints, mirrors):
    """Whether deeds at joints and mirrors lead one word to another one."""
    check_word(word)
    check_word(other)
    _check_mirrors(joints, mirrors)
    if comes(word, other, joints):
        return True
    return _has_one_of(mirrors, word) and comes(word[::-1], other, joints)


def mirrored_size(word, joints, mirrors):
    """How many words there are to which deeds at joints and mirrors lead from a word."""
    check_word(word)
    _check_mirrors(joints, mirrors)
    many = class_size(word, joints)
    # All words of a class, each read backwards, are those of one class, too.
    return 2 * many if _has_one_of(mirrors, word) and not comes(word, word[::-1], joints) else many


def cheapest_mirrored(word, other, prices, mirrors):
    """The least price of deeds from one word to another one, with the fewest of them at mirrors; None if none are."""
    check_two_priced(word, other, prices)
    if not is_prices(mirrors) or _has_one_of(letters_priced(mirrors), letters_priced(prices)):
        raise InvalidPrices(mirrors)
    costs, found = dict(prices), []
    straight = least_lies(word, other, costs)[0]
    if straight is not None:
        found.append((straight, 0))
    once = min([price for letter, price in mirrors if letter in word], default=None)
    backwards = least_lies(word[::-1], other, costs)[0]
    if once is not None and backwards is not None:
        found.append((backwards + once, 1))
    return min(found, default=None)
