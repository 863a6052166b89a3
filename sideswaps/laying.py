"""Lies: the ring of one word laid on the ring of another one."""

from sideswaps.rings import ring_stars


def laid(one, lie):
    """What the ring of a word has at the cell behind each cell by a lie, cell by cell."""
    ring = one + "_"
    return ring[lie:] + ring[:lie]


def all_lies(one, other, joints):
    """The list of all lies of two words."""
    ring, wanted = ring_stars(one, joints), ring_stars(other, joints)
    if len(ring) != len(wanted):
        return []
    return [lie for lie in range(len(ring)) if ring[lie:] + ring[:lie] == wanted]


def joints_even(one, other, joints):
    """Whether each joint stands in both words equally often."""
    return all([one.count(letter) == other.count(letter) for letter in joints])


def lies_leading(one, other, joints):
    """The list of all lies, if the one word comes to the other one; an empty one if not."""
    return all_lies(one, other, joints) if joints_even(one, other, joints) else []


def road_by(one, other, lie):
    """A road along a lie that brings a joint into its wanted cell whenever the hole's cell wants one."""
    signs, wanted = list(laid(one, lie)), list(other + "_")
    hole = signs.index("_")
    road = []
    while signs != wanted:
        cell = _cell_to_take(signs, wanted, hole)
        road.append((cell - hole - 1) % len(signs))
        signs[hole], signs[cell] = signs[cell], "_"
        hole = cell
    return road


def _cell_to_take(signs, wanted, hole):
    """The first wrong cell with the joint that is wanted in the hole's cell, or with any joint if it is none."""
    wrong = [cell for cell, sign in enumerate(signs) if sign not in (wanted[cell], "_")]
    return [cell for cell in wrong if wanted[hole] in (signs[cell], "_")][0]
