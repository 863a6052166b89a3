"""Patterns: the words of a class with a star for each joint, and how letters are put on the stars."""

from sideswaps.counting import orders_of
from sideswaps.rings import ring_stars, starred, turnings


def patterns(word, joints):
    """The patterns of the class of a word, each once."""
    ring = ring_stars(word, joints)
    # Cells that a turning leads to each other give the same pattern, so one round of it is enough.
    period = len(ring) // turnings(ring).count(ring)
    return [ring[cell + 1:] + ring[:cell] for cell in range(period) if ring[cell] == "*"]


def letters_held(word, joints):
    """The list of the letters of a word that are joints, in order."""
    return sorted([letter for letter in word if letter in joints])


def filled(pattern, letters):
    """A pattern with as many letters in the places of its stars, one behind the other."""
    parts = pattern.split("*")
    return "".join([part + letter for part, letter in zip(parts, letters + [""])])


def texts_over(signs, size):
    """All strings of so many of some signs, in order if the signs are."""
    texts = [""]
    for _ in range(size):
        texts = [text + sign for text in texts for sign in signs]
    return texts


def how_many_having(rows, word, joints, place, text):
    """How many words of the class of a word, whose patterns the rows are, have a text from a place on."""
    wanted = starred(text, joints)
    fitting = [row for row in rows if row[place:place + len(text)] == wanted]
    left = [word.count(letter) - text.count(letter) for letter in joints]
    return 0 if min(left, default=0) < 0 else len(fitting) * orders_of(left)
