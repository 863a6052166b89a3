"""Words, joints, prices and roads; and the checks of them that other modules use."""

from sideswaps.errors import InvalidJoints, InvalidNumber, InvalidPrices, InvalidRoad, InvalidWord

LONGEST = 300


def is_word(value):
    """Whether a value is a word."""
    return isinstance(value, str) and all(["a" <= sign <= "z" for sign in value])


def is_joints(value):
    """Whether a value is a string of small letters, each once, in order."""
    return is_word(value) and _ascends(value)


def is_prices(value):
    """Whether a value is a list of a price for each of some letters, these in order."""
    if not isinstance(value, list) or not all([_is_letter_price(item) for item in value]):
        return False
    return _ascends([item[0] for item in value])


def is_letter(value):
    """Whether a value is one small letter."""
    return is_word(value) and len(value) == 1


def is_count(value):
    """Whether a value is a whole number of at least 0."""
    return isinstance(value, int) and not isinstance(value, bool) and value >= 0


def _is_letter_price(value):
    """Whether a value is a tuple of a small letter and a price."""
    if not isinstance(value, tuple) or len(value) != 2:
        return False
    return is_letter(value[0]) and is_count(value[1]) and value[1] >= 1


def _ascends(signs):
    """Whether each sign is ahead of the next one."""
    return all([first < second for first, second in zip(signs, signs[1:])])


def check_word(value):
    """Refuse what is no word."""
    if not is_word(value):
        raise InvalidWord(value)


def check_joints(value):
    """Refuse what are no joints."""
    if not is_joints(value):
        raise InvalidJoints(value)


def check_prices(value):
    """Refuse what are no prices."""
    if not is_prices(value):
        raise InvalidPrices(value)


def check_count(value):
    """Refuse what is no count."""
    if not is_count(value):
        raise InvalidNumber(value)


def check_two(one, other, joints):
    """Refuse what is no word, then no word, then no joints."""
    check_word(one)
    check_word(other)
    check_joints(joints)


def check_two_priced(one, other, prices):
    """Refuse what is no word, then no word, then no prices."""
    check_word(one)
    check_word(other)
    check_prices(prices)


def is_ahead(one, other):
    """Whether one word is ahead of another one in the order of words."""
    check_word(one)
    check_word(other)
    return (len(one), one) < (len(other), other)


def joints_of(prices):
    """The joints of prices."""
    check_prices(prices)
    return letters_priced(prices)


def letters_priced(prices):
    """The letters of what surely are prices."""
    return "".join([item[0] for item in prices])


def open_places(word, joints):
    """The places of a word at which a joint stands."""
    check_word(word)
    check_joints(joints)
    return [place for place, letter in enumerate(word) if letter in joints]


def swapped(word, joints, place):
    """The word that the deed at a place makes."""
    check_word(word)
    check_joints(joints)
    if not _is_open(word, joints, place):
        raise InvalidNumber(place)
    return sides_changed(word, place)


def sides_changed(word, place):
    """The letters, or the list, whose part ahead of a place and part behind it have changed places."""
    return word[place + 1:] + word[place:place + 1] + word[:place]


def _is_open(word, joints, place):
    """Whether a value is a place of a word at which a joint stands."""
    return is_count(place) and place < len(word) and word[place] in joints


def _walked(word, joints, value):
    """All words that a road makes, the word itself first; None if the value is no road."""
    if not isinstance(value, list):
        return None
    made = [word]
    for place in value:
        if not _is_open(made[-1], joints, place):
            return None
        made.append(sides_changed(made[-1], place))
    return made


def is_road(word, joints, value):
    """Whether a value is a road from a word."""
    check_word(word)
    check_joints(joints)
    return _walked(word, joints, value) is not None


def passed(word, joints, road):
    """All words that a road makes, the word itself first."""
    check_word(word)
    check_joints(joints)
    made = _walked(word, joints, road)
    if made is None:
        raise InvalidRoad(road)
    return made


def done(word, joints, road):
    """The word to which a road leads."""
    return passed(word, joints, road)[-1]


def back_road(size, road):
    """The road that leads back, whatever the word of so many letters and the joints are."""
    if not is_count(size) or size > LONGEST:
        raise InvalidNumber(size)
    if not isinstance(road, list) or not all([is_count(place) and place < size for place in road]):
        raise InvalidRoad(road)
    return [size - 1 - place for place in reversed(road)]


def price_of(word, prices, road):
    """The sum of the prices of the joints at which the deeds of a road are done."""
    check_word(word)
    check_prices(prices)
    made = passed(word, letters_priced(prices), road)
    costs = dict(prices)
    return sum([costs[each[place]] for each, place in zip(made, road)])


def moved(word, joints, road):
    """For each letter of the word to which a road leads, its place in the word at first."""
    passed(word, joints, road)
    spots = list(range(len(word)))
    for place in road:
        spots = sides_changed(spots, place)
    return spots
