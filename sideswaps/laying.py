"""Lies: the ring of one word laid on the ring of another one."""

from sideswaps.errors import InvalidNumber
from sideswaps.rings import ring_stars
from sideswaps.ties import exact_falls, ties_of, value_of_ties
from sideswaps.words import check_two_priced, is_count, letters_priced, sides_changed


def laid(one, lie):
    """What the ring of a word has at the cell behind each cell by a lie, cell by cell."""
    ring = one + "_"
    return ring[lie:] + ring[:lie]


def all_lies(one, other, joints):
    """The list of all lies of two words."""
    ring, wanted = ring_stars(one, joints), ring_stars(other, joints)
    if len(ring) != len(wanted):
        return []
    return [lie for lie in range(len(ring)) if ring[lie:] + ring[:lie] == wanted]


def joints_even(one, other, joints):
    """Whether each joint stands in both words equally often."""
    return all([one.count(letter) == other.count(letter) for letter in joints])


def lies_leading(one, other, joints):
    """The list of all lies, if the one word comes to the other one; an empty one if not."""
    return all_lies(one, other, joints) if joints_even(one, other, joints) else []


def road_by(one, other, lie):
    """A road along a lie that brings a joint into its wanted cell whenever the hole's cell wants one."""
    signs, wanted = list(laid(one, lie)), list(other + "_")
    hole = signs.index("_")
    road = []
    while signs != wanted:
        cell = _cell_to_take(signs, wanted, hole)
        road.append((cell - hole - 1) % len(signs))
        signs[hole], signs[cell] = signs[cell], "_"
        hole = cell
    return road


def _cell_to_take(signs, wanted, hole):
    """The first wrong cell with the joint that is wanted in the hole's cell, or with any joint if it is none."""
    wrong = [cell for cell, sign in enumerate(signs) if sign not in (wanted[cell], "_")]
    return [cell for cell in wrong if wanted[hole] in (signs[cell], "_")][0]


def check_lie(one, other, prices, lie):
    """Refuse what is no word, then no word, then no prices, then no lie of words of which one comes to the other."""
    check_two_priced(one, other, prices)
    if not is_count(lie) or lie not in lies_leading(one, other, letters_priced(prices)):
        raise InvalidNumber(lie)


def word_ties(one, other, lie):
    """For each wrong cell of a lie the tuple of its sign and its wanted one."""
    return ties_of(laid(one, lie), other + "_")


def value_of(one, other, lie, costs):
    """The value of a lie, by a dict of the price of each joint."""
    return value_of_ties(word_ties(one, other, lie), costs)


def least_lies(one, other, costs):
    """The least value of a lie by which one word comes to another one, None if there is none, and all such lies."""
    found = lies_leading(one, other, "".join(list(costs)))
    values = [value_of(one, other, lie, costs) for lie in found]
    least = min(values, default=None)
    return least, [lie for lie, value in zip(found, values) if value == least]


def places_less(one, other, lie, costs):
    """The places of a word, ascending, at which a deed makes the value of a lie less by just its price."""
    falls = exact_falls(laid(one, lie), other + "_", costs)
    return sorted([(cell - hole - 1) % (len(one) + 1) for cell, hole in falls])


def behind_deed(word, lie, place):
    """The tuple of the word that the deed at a place makes, and of the lie that a lie is then."""
    return sides_changed(word, place), (lie - place - 1) % (len(word) + 1)
