"""The fewest and the cheapest deeds from one word to another one."""

from sideswaps.errors import InvalidJoints
from sideswaps.laying import all_lies, check_lie, least_lies, lies_leading, places_less, value_of, word_ties
from sideswaps.ties import lots_of
from sideswaps.words import check_two, check_two_priced, is_letter, letters_priced


def lies(one, other, joints):
    """All lies of two words, ascending."""
    check_two(one, other, joints)
    return all_lies(one, other, joints)


def lots(one, other, prices, lie):
    """The lots of a lie, in order."""
    check_lie(one, other, prices, lie)
    return lots_of(word_ties(one, other, lie))


def lie_value(one, other, prices, lie):
    """The value of a lie."""
    check_lie(one, other, prices, lie)
    return value_of(one, other, lie, dict(prices))


def cheapest(one, other, prices):
    """The least price of a road from one word to another one, None if there is none."""
    check_two_priced(one, other, prices)
    return least_lies(one, other, dict(prices))[0]


def fewest_deeds(one, other, joints):
    """The least number of deeds from one word to another one, None if there is no road."""
    check_two(one, other, joints)
    return least_lies(one, other, {letter: 1 for letter in joints})[0]


def one_deed_less(one, other, prices, lie):
    """The places of one word at which a deed makes the value of a lie less by just its price."""
    check_lie(one, other, prices, lie)
    return places_less(one, other, lie, dict(prices))


def price_line(one, other, prices, letter):
    """How the cheapest price hangs on the price of one joint; None if there is no road."""
    check_two_priced(one, other, prices)
    if not is_letter(letter) or letter not in letters_priced(prices):
        raise InvalidJoints(letter)
    found = lies_leading(one, other, letters_priced(prices))
    if not found:
        return None
    costs = dict(prices)
    return _lowest_line([line for lie in found for line in _lines_of(one, other, lie, costs, letter)])


def _lines_of(one, other, lie, costs, letter):
    """Tuples (base, rise) the least of which, base + rise * price, is the value of a lie at each price of a letter."""
    base = value_of(one, other, lie, {**costs, letter: 0})
    ties = word_ties(one, other, lie)
    rise = len([sign for sign, _ in ties if sign == letter])
    for lot in lots_of(ties):
        if letter in lot and "_" not in lot:
            others = min([costs[sign] for sign in lot if sign != letter])
            return [(base, rise + 1), (base + others, rise)]
    return [(base, rise)]


def _lowest_line(lines):
    """The tuples (start, price, rise) of the least of some lines (base, rise), from the price 1 on."""
    told = []
    start = 1
    while start is not None:
        price = min([base + rise * start for base, rise in lines])
        slope = min([base + rise * (start + 1) for base, rise in lines]) - price
        told.append((start, price, slope))
        # Only a line that rises less gets below, and up to where they cross, rounded down, it does not.
        ends = [(base + slope * start - price) // (slope - rise) for base, rise in lines if rise < slope]
        start = min(ends, default=None)
    return told
