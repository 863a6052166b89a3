"""Roads that cost least."""

from math import factorial

from sideswaps.classes import leads_to
from sideswaps.errors import InvalidWord
from sideswaps.fewest import cheapest
from sideswaps.laying import behind_deed, check_lie, least_lies, places_less, word_ties
from sideswaps.ties import lots_of
from sideswaps.words import check_two_priced, letters_priced, price_of, sides_changed


def road_along(one, other, prices, lie):
    """The road along a lie that costs just its value, each deed at the first place that takes its price off it."""
    check_lie(one, other, prices, lie)
    costs = dict(prices)
    road = []
    word, turned = one, lie
    places = places_less(word, other, turned, costs)
    while places:
        road.append(places[0])
        word, turned = behind_deed(word, turned, places[0])
        places = places_less(word, other, turned, costs)
    return road


def is_cheapest_road(one, other, prices, value):
    """Whether a value is a road from one word to another one that costs no more than any other one."""
    least = cheapest(one, other, prices)
    if not leads_to(one, other, letters_priced(prices), value):
        return False
    return price_of(one, prices, value) == least


def cheapest_road(one, other, prices):
    """The first of the roads that cost least, None if there is none."""
    check_two_priced(one, other, prices)
    costs = dict(prices)
    least, left = least_lies(one, other, costs)
    if least is None:
        return None
    road = []
    word = one
    while word != other:
        # No such road is the beginning of another one, so that the first one has the first place that one begins with.
        steps = _steps(word, other, left, costs)
        place = min([places[0] for _, places in steps])
        road.append(place)
        left = [behind_deed(word, lie, place)[1] for lie, places in steps if place in places]
        word = sides_changed(word, place)
    return road


def first_deeds(one, other, prices):
    """The places with which a road that costs least begins, ascending, None if there is none."""
    check_two_priced(one, other, prices)
    costs = dict(prices)
    least, left = least_lies(one, other, costs)
    if least is None:
        return None
    return sorted({place for _, places in _steps(one, other, left, costs) for place in places})


def _steps(word, other, left, costs):
    """For each of some lies the tuple of it and of the places at which a deed takes just its price off its value."""
    return [(lie, places_less(word, other, lie, costs)) for lie in left]


def how_many_cheapest(one, other, prices):
    """How many roads that cost least there are, for words whose joints are all unlike."""
    check_two_priced(one, other, prices)
    if not all([one.count(letter) <= 1 for letter in letters_priced(prices)]):
        raise InvalidWord(one)
    costs = dict(prices)
    return sum([_roads_along(one, other, lie, costs) for lie in least_lies(one, other, costs)[1]])


def _roads_along(one, other, lie, costs):
    """How many roads that cost least go along a lie of the least value, if all joints are unlike."""
    found = lots_of(word_ties(one, other, lie))
    # Unlike joints are each in one cell, so that a lot has as many wrong cells as signs.
    wrong = max([len(lot) for lot in found if "_" in lot], default=1)
    others = [lot for lot in found if "_" not in lot]
    many = wrong
    for lot in others:
        prices = [costs[sign] for sign in lot]
        many *= prices.count(min(prices))
        wrong += len(lot)
    return many * factorial(wrong + len(others) - 1) // factorial(wrong)
