"""The classes of all words of one length."""

from math import comb, factorial

from sideswaps.counting import rings_by_turns, ways_to_share
from sideswaps.errors import InvalidWord, TooMany
from sideswaps.sizes import MOST_TOLD
from sideswaps.words import check_count, check_joints, is_joints


def _check_all(letters, joints, length):
    """Refuse what are no letters, then what are no joints, then what is no count."""
    if not is_joints(letters) or letters == "":
        raise InvalidWord(letters)
    check_joints(joints)
    check_count(length)


def _kinds(letters, joints):
    """How many of some letters are joints, and how many are none."""
    joined = len([letter for letter in letters if letter in joints])
    return joined, len(letters) - joined


def how_many_classes(letters, joints, length):
    """How many classes the words of a length over some letters fall into."""
    _check_all(letters, joints, length)
    joined, bodies = _kinds(letters, joints)
    many = 0
    for stars in range(1, length + 2):
        rings = sum([item[1] for item in rings_by_turns(length + 1, stars, bodies)])
        many += rings * ways_to_share(stars - 1, joined)
    return many


def classes_by_size(letters, joints, length):
    """How many of these classes have how many words."""
    _check_all(letters, joints, length)
    joined, bodies = _kinds(letters, joints)
    found = {}
    for (held, alike), ways in _shares(length, joined).items():
        orders = factorial(held) // alike
        for turns, rings in rings_by_turns(length + 1, held + 1, bodies):
            # The hole has all stars to stand on, but turnings lead some of them to one another.
            size = (held + 1) // turns * orders
            found[size] = found.get(size, 0) + rings * ways
    return [(size, found[size]) for size in sorted(found) if found[size] > 0]


def _shares(most, joined):
    """In how many ways letters, at most so many, can be shared among so many joints.

    They are told by how many letters they are, and by how many orders of them change nothing.
    """
    ways = {(0, 1): 1}
    for _ in range(joined):
        more = {}
        for (held, alike), many in ways.items():
            for count in range(most - held + 1):
                key = (held + count, alike * factorial(count))
                more[key] = more.get(key, 0) + many
        ways = more
    return ways


def how_many_pairs(letters, joints, length):
    """How many tuples of two words of a length there are of which the one comes to the other."""
    _check_all(letters, joints, length)
    joined, bodies = _kinds(letters, joints)
    squares = _squares(length, joined)
    many = 0
    for stars in range(1, length + 2):
        for turns, rings in rings_by_turns(length + 1, stars, bodies):
            many += rings * (stars // turns) ** 2 * squares[stars - 1]
    return many


def _squares(most, joined):
    """For each count up to one: the squares, added up over all shares of it, of how many orders a share has."""
    sums = [1] + [0] * most
    for _ in range(joined):
        sums = [
            sum([comb(held, count) ** 2 * sums[held - count] for count in range(held + 1)])
            for held in range(most + 1)
        ]
    return sums


def first_words(letters, joints, length):
    """The first words, in order, of all these classes."""
    many = how_many_classes(letters, joints, length)
    if many > MOST_TOLD:
        raise TooMany(many)
    kept = "".join([letter for letter in letters if letter in joints])
    bodies = "".join([letter for letter in letters if letter not in joints])
    shares, found = {}, []
    # Without joints no ring has a second star.
    for ring, period in _star_rings("*" + bodies if kept else bodies, length + 1):
        rows = [ring[cell + 1:] + ring[:cell] for cell in range(period) if ring[cell] == "*"]
        stars = rows[0].count("*")
        if stars not in shares:
            shares[stars] = _shares_told(kept, stars)
        if len(rows) == 1:
            found.extend([_put_on_stars(rows[0], share) for share in shares[stars]])
        else:
            found.extend([min([_put_on_stars(row, share) for row in rows]) for share in shares[stars]])
    return sorted(found)


def _star_rings(signs, cells):
    """All rings of so many cells, a star and some signs, each read round from where it is the first, with its period.

    A beginning of such a ring goes on with the sign that stands a period ahead of the next cell, and keeps its period,
    or with a later sign, and is then its own period; with an earlier one it begins no such ring.
    """
    behind = {sign: signs[spot:] for spot, sign in enumerate(signs)}
    behind["*"] = signs
    found = [("*", 1)]
    for spot in range(1, cells):
        found = [
            (text + sign, period if sign == text[spot - period] else spot + 1)
            for text, period in found for sign in behind[text[spot - period]]
        ]
    return [(text, period) for text, period in found if cells % period == 0]


def _put_on_stars(row, share):
    """A text with the letters of a share in the places of its stars, one behind the other."""
    for letter, count in share:
        row = row.replace("*", letter, count)
    return row


def _shares_told(letters, many):
    """All lists of tuples of a letter and how often it is taken, so many letters in all, the letters in order."""
    shares = [([], many)]
    for letter in letters:
        last = letter == letters[-1]
        shares = [
            (share + [(letter, count)] if count else share, left - count)
            for share, left in shares for count in range(left if last else 0, left + 1)
        ]
    return [share for share, _ in shares]
