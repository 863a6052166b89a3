"""The fewest and the cheapest deeds from one word to another one."""

from sideswaps.errors import InvalidJoints
from sideswaps.laying import all_lies, check_lie, lies_leading, lots_tied, value_of, wrong_cells
from sideswaps.words import check_prices, check_two, check_word, is_letter, letters_priced, sides_changed


def lies(one, other, joints):
    """All lies of two words, ascending."""
    check_two(one, other, joints)
    return all_lies(one, other, joints)


def lots(one, other, prices, lie):
    """The lots of a lie, in order."""
    check_lie(one, other, prices, lie)
    return lots_tied(one, other, lie)


def lie_value(one, other, prices, lie):
    """The value of a lie."""
    check_lie(one, other, prices, lie)
    return value_of(one, other, lie, dict(prices))


def cheapest(one, other, prices):
    """The least price of a road from one word to another one, None if there is none."""
    check_word(one)
    check_word(other)
    check_prices(prices)
    return _least_value(one, other, dict(prices))


def fewest_deeds(one, other, joints):
    """The least number of deeds from one word to another one, None if there is no road."""
    check_two(one, other, joints)
    return _least_value(one, other, {letter: 1 for letter in joints})


def _least_value(one, other, costs):
    """The least value of a lie by which one word comes to another one, None if there is none."""
    found = lies_leading(one, other, "".join(list(costs)))
    return min([value_of(one, other, lie, costs) for lie in found], default=None)


def one_deed_less(one, other, prices, lie):
    """The places of one word at which a deed makes the value of a lie less by just its price."""
    check_lie(one, other, prices, lie)
    costs = dict(prices)
    value = value_of(one, other, lie, costs)
    places = []
    for place, letter in enumerate(one):
        if letter in costs:
            made, behind = sides_changed(one, place), (lie - place - 1) % (len(one) + 1)
            if value_of(made, other, behind, costs) == value - costs[letter]:
                places.append(place)
    return places


def price_line(one, other, prices, letter):
    """How the cheapest price hangs on the price of one joint; None if there is no road."""
    check_word(one)
    check_word(other)
    check_prices(prices)
    if not is_letter(letter) or letter not in letters_priced(prices):
        raise InvalidJoints(letter)
    found = lies_leading(one, other, letters_priced(prices))
    if not found:
        return None
    costs = dict(prices)
    return _lowest_line([line for lie in found for line in _lines_of(one, other, lie, costs, letter)])


def _lines_of(one, other, lie, costs, letter):
    """Tuples (base, rise) the least of which, base + rise * price, is the value of a lie at each price of a letter."""
    base = value_of(one, other, lie, {**costs, letter: 0})
    rise = len([sign for sign, wanted in wrong_cells(one, other, lie) if sign == letter])
    for lot in lots_tied(one, other, lie):
        if letter in lot and "_" not in lot:
            others = min([costs[sign] for sign in lot if sign != letter])
            return [(base, rise + 1), (base + others, rise)]
    return [(base, rise)]


def _lowest_line(lines):
    """The tuples (start, price, rise) of the least of some lines (base, rise), from the price 1 on."""
    told = []
    start = 1
    while start is not None:
        price = min([base + rise * start for base, rise in lines])
        slope = min([base + rise * (start + 1) for base, rise in lines]) - price
        told.append((start, price, slope))
        # Only a line that rises less gets below, and up to where they cross, rounded down, it does not.
        ends = [(base + slope * start - price) // (slope - rise) for base, rise in lines if rise < slope]
        start = min(ends, default=None)
    return told
