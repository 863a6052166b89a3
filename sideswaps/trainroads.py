"""Train roads that cost least."""

from sideswaps.errors import InvalidNumber, InvalidRoad, Unlike
from sideswaps.ties import exact_falls, lots_of, ties_of, value_of_ties
from sideswaps.trains import are_alike, cells_changed, check_train, deed_between, stars_of, train_parting
from sideswaps.trains import train_text, trains_passed
from sideswaps.words import check_prices, is_count, letters_priced


def _check_priced(one, other, prices):
    """Refuse what is no train, then no train, then no prices."""
    check_train(one)
    check_train(other)
    check_prices(prices)


def _check_like(one, other, prices):
    """Refuse two trains of which the one does not come to the other."""
    parting = train_parting(one, other, letters_priced(prices))
    if parting is not None:
        raise Unlike(parting)


def _turned(text, number):
    """A text, read round from a cell on."""
    return text[number:] + text[:number]


def _fitting(text, wanted, prices):
    """The numbers of all lies of two trains, told by their texts, that fit."""
    stars, starred = stars_of(text, letters_priced(prices)), stars_of(wanted, letters_priced(prices))
    return [number for number in range(len(wanted)) if _turned(stars, number) == starred]


def _values(one, other, prices):
    """The values of all lies of two trains, None for each that does not fit."""
    text, wanted, costs = train_text(one), train_text(other), dict(prices)
    values = [None] * len(wanted)
    for number in _fitting(text, wanted, prices):
        values[number] = value_of_ties(ties_of(_turned(text, number), wanted), costs)
    return values


def lie_values(one, other, prices):
    """The values of all lies of two trains, None for each that does not fit."""
    _check_priced(one, other, prices)
    _check_like(one, other, prices)
    return _values(one, other, prices)


def lie_lots(one, other, prices, number):
    """The lots of a lie of two trains, in order, None if it does not fit."""
    _check_priced(one, other, prices)
    if not is_count(number) or number >= len(train_text(other)):
        raise InvalidNumber(number)
    _check_like(one, other, prices)
    text, wanted = train_text(one), train_text(other)
    if number not in _fitting(text, wanted, prices):
        return None
    return lots_of(ties_of(_turned(text, number), wanted))


def _least_lies(one, other, prices):
    """The least value of a lie of two trains of which the one comes to the other, and all lies that have it."""
    values = _values(one, other, prices)
    least = min([value for value in values if value is not None])
    return least, [number for number, value in enumerate(values) if value == least]


def train_distance(one, other, prices):
    """The least price of a road from one train to another one, None if there is none."""
    _check_priced(one, other, prices)
    if train_parting(one, other, letters_priced(prices)) is not None:
        return None
    return _least_lies(one, other, prices)[0]


def train_road(one, other, prices):
    """A road of the least price from one train to another one."""
    _check_priced(one, other, prices)
    _check_like(one, other, prices)
    text, wanted, costs = train_text(one), train_text(other), dict(prices)
    number = _least_lies(one, other, prices)[1][0]
    road = []
    falls = exact_falls(_turned(text, number), wanted, costs)
    while falls:
        cell, hole = [(each + number) % len(text) for each in falls[0]]
        road.append(deed_between(text, cell, hole))
        text, turned = cells_changed(text, cell, hole)
        number = (number + turned) % len(text)
        falls = exact_falls(_turned(text, number), wanted, costs)
    return road


def is_cheapest(one, other, prices, value):
    """Whether a value is a road of the least price from one train to another one."""
    _check_priced(one, other, prices)
    _check_like(one, other, prices)
    made = trains_passed(one, letters_priced(prices), value)
    if made is None or not are_alike(made[-1], other):
        return False
    return _price_of(made, prices, value) == _least_lies(one, other, prices)[0]


def _price_of(made, prices, deeds):
    """The price of a train road that makes some trains."""
    costs = dict(prices)
    return sum([costs[train[car][place]] for train, (car, place, _) in zip(made, deeds)])


def first_train_deeds(one, other, prices):
    """All train deeds, in order, with which roads of the least price from one train to another one begin."""
    _check_priced(one, other, prices)
    _check_like(one, other, prices)
    text, wanted, costs = train_text(one), train_text(other), dict(prices)
    found = set()
    for number in _least_lies(one, other, prices)[1]:
        for cell, hole in exact_falls(_turned(text, number), wanted, costs):
            found.add(deed_between(text, (cell + number) % len(text), (hole + number) % len(text)))
    return sorted(found)


def train_price(train, prices, deeds):
    """The price of a train road."""
    check_train(train)
    check_prices(prices)
    made = trains_passed(train, letters_priced(prices), deeds)
    if made is None:
        raise InvalidRoad(deeds)
    return _price_of(made, prices, deeds)
