"""Trains: rings of several words, with a hole behind each of them."""

from sideswaps.counting import coprimes_of, divisors_of, orders_of
from sideswaps.errors import InvalidDeed, InvalidRoad, InvalidTrain, TooMany
from sideswaps.patterns import filled, orders_told, rows_behind_stars
from sideswaps.rings import starred, turnings
from sideswaps.words import check_joints, is_count, is_word

MOST_WORDS = 12
MOST_TRAINS = 600


def is_train(value):
    """Whether a value is a train."""
    if not isinstance(value, list) or not 1 <= len(value) <= MOST_WORDS:
        return False
    return all([is_word(word) for word in value])


def check_train(value):
    """Refuse what is no train."""
    if not is_train(value):
        raise InvalidTrain(value)


def _check_train_joints(train, joints):
    """Refuse what is no train, then what are no joints."""
    check_train(train)
    check_joints(joints)


def train_text(train):
    """The words of a train, one behind the other, with "_" behind each."""
    check_train(train)
    return "".join([word + "_" for word in train])


def _words_of(text):
    """The words of a text that ends with "_"."""
    return text.split("_")[:-1]


def first_train(train):
    """The first of all trains that are alike with a train."""
    check_train(train)
    return min(turnings(train))


def are_alike(one, other):
    """Whether two trains are alike."""
    check_train(one)
    check_train(other)
    return other in turnings(one)


def train_deeds(train, joints):
    """All train deeds of a train, in order."""
    _check_train_joints(train, joints)
    return [
        (car, place, gap) for car, word in enumerate(train) for place, letter in enumerate(word) if letter in joints
        for gap in range(len(train))
    ]


def _is_deed(train, joints, value):
    """Whether a value is a train deed of a train."""
    if not isinstance(value, tuple) or len(value) != 3 or not all([is_count(number) for number in value]):
        return False
    car, place, gap = value
    if car >= len(train) or gap >= len(train) or place >= len(train[car]):
        return False
    return train[car][place] in joints


def _check_deed(train, joints, deed):
    """Refuse what is no train, then what are no joints, then what is no train deed of the train."""
    _check_train_joints(train, joints)
    if not _is_deed(train, joints, deed):
        raise InvalidDeed(deed)


def train_swapped(train, joints, deed):
    """The train that a train deed makes."""
    _check_deed(train, joints, deed)
    return _swapped(train, deed)


def _swapped(train, deed):
    """The train that what surely is a train deed makes."""
    cell, hole = _cells_of(train, deed)
    return _words_of(cells_changed(train_text(train), cell, hole)[0])


def _cells_of(train, deed):
    """The cells of the joint and of the hole of a train deed."""
    car, place, gap = deed
    starts = [0]
    for word in train:
        starts.append(starts[-1] + len(word) + 1)
    return starts[car] + place, starts[gap + 1] - 1


def cells_changed(text, cell, hole):
    """The text of a train with what is at two cells exchanged, and by how many cells all of it is then turned on."""
    first, second = min(cell, hole), max(cell, hole)
    made = text[:first] + text[second] + text[first + 1:second] + text[first] + text[second + 1:]
    behind = made.rpartition("_")[2]
    return behind + made[:len(made) - len(behind)], len(behind)


def deed_between(text, cell, hole):
    """The train deed that exchanges the joint at a cell of the text of a train and the hole at another one."""
    return text[:cell].count("_"), cell - text.rfind("_", 0, cell) - 1, text[:hole].count("_")


def train_back(train, joints, deed):
    """The train deed that exchanges the same two cells again in the train that a train deed makes."""
    _check_deed(train, joints, deed)
    cell, hole = _cells_of(train, deed)
    text, turned = cells_changed(train_text(train), cell, hole)
    return deed_between(text, (hole + turned) % len(text), (cell + turned) % len(text))


def trains_passed(train, joints, value):
    """All trains that a train road makes, the train itself first; None if the value is no train road."""
    if not isinstance(value, list):
        return None
    made = [list(train)]
    for deed in value:
        if not _is_deed(made[-1], joints, deed):
            return None
        made.append(_swapped(made[-1], deed))
    return made


def is_train_road(train, joints, value):
    """Whether a value is a train road from a train."""
    _check_train_joints(train, joints)
    return trains_passed(train, joints, value) is not None


def train_done(train, joints, deeds):
    """The train to which a train road leads."""
    _check_train_joints(train, joints)
    made = trains_passed(train, joints, deeds)
    if made is None:
        raise InvalidRoad(deeds)
    return made[-1]


def stars_of(text, joints):
    """The text of a train with "*" for each joint and each hole."""
    return starred(text, joints + "_")


def train_ring(train, joints):
    """The star ring of a train."""
    _check_train_joints(train, joints)
    return min(turnings(stars_of(train_text(train), joints)))


def train_parting(one, other, joints):
    """What keeps two trains apart; None if the one comes to the other."""
    check_train(one)
    check_train(other)
    check_joints(joints)
    if len(one) != len(other):
        return ("cars", len(one), len(other))
    first, second = train_ring(one, joints), train_ring(other, joints)
    if first != second:
        return ("ring", first, second)
    for letter in joints:
        many, wanted = "".join(one).count(letter), "".join(other).count(letter)
        if many != wanted:
            return ("joint", letter, many, wanted)
    return None


def _turns_and_counts(train, joints):
    """How many turnings leave the star ring of a train as it is, and how often each joint and the hole stand in it."""
    _check_train_joints(train, joints)
    text = train_text(train)
    ring = stars_of(text, joints)
    return turnings(ring).count(ring), [text.count(sign) for sign in joints + "_"]


def how_many_trains(train, joints):
    """How many trains the class of a train has, alike ones taken as one."""
    turns, counts = _turns_and_counts(train, joints)
    # Burnside's count: a turning keeps just what is the same in each of its rounds, which are all equally long.
    many = 0
    for rounds in divisors_of(turns):
        if all([count % rounds == 0 for count in counts]):
            many += coprimes_of(rounds) * orders_of([count // rounds for count in counts])
    return many // turns


def how_many_lists(train, joints):
    """How many trains the class of a train has, as lists."""
    turns, counts = _turns_and_counts(train, joints)
    return len(train) * orders_of(counts) // turns


def trains_of(train, joints):
    """The first trains of all trains of the class of a train, in order."""
    many = how_many_trains(train, joints)
    if many > MOST_TRAINS:
        raise TooMany(many)
    text = train_text(train)
    # The last hole of each list is behind its last cell.
    signs = sorted([sign for sign in text[:-1] if sign in joints + "_"])
    rows = rows_behind_stars(stars_of(text, joints))
    lists = [_words_of(filled(row, order) + "_") for order in orders_told(signs) for row in rows]
    return sorted([each for each in lists if each == min(turnings(each))])
