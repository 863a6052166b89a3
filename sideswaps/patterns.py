"""Patterns: the words of a class with a star for each joint, and how letters are put on the stars."""

from sideswaps.counting import orders_of
from sideswaps.rings import ring_stars, starred, turnings


def patterns(word, joints):
    """The patterns of the class of a word, each once."""
    return rows_behind_stars(ring_stars(word, joints))


def rows_behind_stars(ring):
    """What stands behind each star of a ring, once round up to this star, each once."""
    # Cells that a turning leads to each other give the same row, so one round of it is enough.
    period = len(ring) // turnings(ring).count(ring)
    return [ring[cell + 1:] + ring[:cell] for cell in range(period) if ring[cell] == "*"]


def letters_held(word, joints):
    """The list of the letters of a word that are joints, in order."""
    return sorted([letter for letter in word if letter in joints])


def numbers_by_class(words, joints):
    """The lists of the numbers of those of some words that belong to one class, ordered by their first numbers."""
    found = {}
    for number, word in enumerate(words):
        key = (min(turnings(ring_stars(word, joints))), "".join(letters_held(word, joints)))
        found.setdefault(key, []).append(number)
    return list(found.values())


def filled(pattern, letters):
    """A pattern with as many letters in the places of its stars, one behind the other."""
    parts = pattern.split("*")
    return "".join([part + letter for part, letter in zip(parts, letters + [""])])


def orders_told(letters):
    """All orders of some letters that are in order, each once."""
    orders = []
    order = letters
    while order is not None:
        orders.append(order)
        order = _next_order(order)
    return orders


def _next_order(letters):
    """The next order of some letters, None behind the last one."""
    spot = len(letters) - 2
    while spot >= 0 and letters[spot] >= letters[spot + 1]:
        spot -= 1
    if spot < 0:
        return None
    other = len(letters) - 1
    while letters[other] <= letters[spot]:
        other -= 1
    made = list(letters)
    made[spot], made[other] = made[other], made[spot]
    return made[:spot + 1] + made[spot + 1:][::-1]


def texts_over(signs, size):
    """All strings of so many of some signs, in order if the signs are."""
    texts = [""]
    for _ in range(size):
        texts = [text + sign for text in texts for sign in signs]
    return texts


def how_many_having(rows, word, joints, place, text):
    """How many words of the class of a word, whose patterns the rows are, have a text from a place on."""
    wanted = starred(text, joints)
    fitting = [row for row in rows if row[place:place + len(text)] == wanted]
    left = [word.count(letter) - text.count(letter) for letter in joints]
    return 0 if min(left, default=0) < 0 else len(fitting) * orders_of(left)
