"""How many words a class has, all of them, and into how many classes it falls."""

from sideswaps.counting import coprimes_of, divisors_of, orders_of
from sideswaps.errors import InvalidJoints, TooMany
from sideswaps.patterns import filled, letters_held, orders_told, patterns
from sideswaps.rings import ring_turns
from sideswaps.words import check_joints, check_word, is_joints

MOST_TOLD = 2000


def class_size(word, joints):
    """How many words the class of a word has."""
    check_word(word)
    check_joints(joints)
    counts = [word.count(letter) for letter in joints]
    # The hole is one of the stars, alike with no joint.
    return orders_of(counts + [1]) // ring_turns(word, joints)


def class_words(word, joints):
    """All words of the class of a word, in order."""
    size = class_size(word, joints)
    if size > MOST_TOLD:
        raise TooMany(size)
    orders = orders_told(letters_held(word, joints))
    return sorted([filled(pattern, order) for pattern in patterns(word, joints) for order in orders])


def parts_by(word, joints, fewer):
    """Into how many classes for fewer joints the class of a word falls."""
    check_word(word)
    check_joints(joints)
    if not is_joints(fewer) or not all([letter in joints for letter in fewer]):
        raise InvalidJoints(fewer)
    freed = [word.count(letter) for letter in joints if letter not in fewer]
    kept = 1 + len(letters_held(word, joints)) - sum(freed)
    turns = ring_turns(word, joints)
    # Burnside's count: a turning keeps just what is the same in each of its rounds, which are all equally long.
    many = 0
    for rounds in divisors_of(turns):
        if all([count % rounds == 0 for count in freed + [kept]]):
            many += coprimes_of(rounds) * orders_of([count // rounds for count in freed + [kept]])
    return many // turns
