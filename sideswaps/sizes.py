"""How many words a class has, all of them, and into how many classes it falls."""

from sideswaps.counting import coprimes_of, divisors_of, orders_of
from sideswaps.errors import InvalidJoints, TooMany
from sideswaps.patterns import filled, letters_held, patterns
from sideswaps.rings import ring_turns
from sideswaps.words import check_joints, check_word, is_joints

MOST_TOLD = 2000


def class_size(word, joints):
    """How many words the class of a word has."""
    check_word(word)
    check_joints(joints)
    counts = [word.count(letter) for letter in joints]
    # The hole is one of the stars, alike with no joint.
    return orders_of(counts + [1]) // ring_turns(word, joints)


def class_words(word, joints):
    """All words of the class of a word, in order."""
    size = class_size(word, joints)
    if size > MOST_TOLD:
        raise TooMany(size)
    orders = _orders_told(letters_held(word, joints))
    return sorted([filled(pattern, order) for pattern in patterns(word, joints) for order in orders])


def _orders_told(letters):
    """All orders of some letters that are in order, each once."""
    orders = []
    order = letters
    while order is not None:
        orders.append(order)
        order = _next_order(order)
    return orders


def _next_order(letters):
    """The next order of some letters, None behind the last one."""
    falls = [spot for spot in range(len(letters) - 1) if letters[spot] < letters[spot + 1]]
    if not falls:
        return None
    spot = falls[-1]
    other = max([each for each in range(spot + 1, len(letters)) if letters[each] > letters[spot]])
    made = list(letters)
    made[spot], made[other] = made[other], made[spot]
    return made[:spot + 1] + made[spot + 1:][::-1]


def parts_by(word, joints, fewer):
    """Into how many classes for fewer joints the class of a word falls."""
    check_word(word)
    check_joints(joints)
    if not is_joints(fewer) or not all([letter in joints for letter in fewer]):
        raise InvalidJoints(fewer)
    freed = [word.count(letter) for letter in joints if letter not in fewer]
    kept = 1 + len(letters_held(word, joints)) - sum(freed)
    turns = ring_turns(word, joints)
    # Burnside's count: a turning keeps just what is the same in each of its rounds, which are all equally long.
    many = 0
    for rounds in divisors_of(turns):
        if all([count % rounds == 0 for count in freed + [kept]]):
            many += coprimes_of(rounds) * orders_of([count // rounds for count in freed + [kept]])
    return many // turns
