"""The ring of a word, its stars, and what one deed makes."""

from sideswaps.words import check_joints, check_word, is_word, open_places, sides_changed


def starred(text, joints):
    """The letters of a text, with "*" in the place of each joint."""
    return "".join(["*" if letter in joints else letter for letter in text])


def ring_stars(word, joints):
    """The star ring of a word, read from its first letter on; the hole is the last cell."""
    return starred(word, joints) + "*"


def turnings(ring):
    """A ring, read round from each of its cells."""
    return [ring[cell:] + ring[:cell] for cell in range(len(ring))]


def star_ring(word, joints):
    """The first one of the strings that the star ring of a word is, read round."""
    check_word(word)
    check_joints(joints)
    return min(turnings(ring_stars(word, joints)))


def ring_turns(word, joints):
    """How many turnings leave the star ring of a word as it is."""
    check_word(word)
    check_joints(joints)
    ring = ring_stars(word, joints)
    return turnings(ring).count(ring)


def is_star_ring(value):
    """Whether a value is a star ring, read round from where it is the first."""
    if not isinstance(value, str) or "*" not in value or not is_word(value.replace("*", "")):
        return False
    return value == min(turnings(value))


def one_deed(word, joints):
    """The words, in order and each once, that one deed makes of a word."""
    return sorted({sides_changed(word, place) for place in open_places(word, joints)})


def is_alone(word, joints):
    """Whether a word comes to no other one."""
    # What comes to another word at all comes to another one by its first deed that changes it.
    return one_deed(word, joints) in ([], [word])
