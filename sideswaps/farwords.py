"""Far words: words told by runs of letters, and never written out."""

from math import gcd

from sideswaps.errors import InvalidFar, InvalidNumber, InvalidRoad, TooLong
from sideswaps.words import LONGEST, check_count, check_joints, is_count, is_letter


def is_far(value):
    """Whether a value is a far word."""
    return isinstance(value, list) and all([_is_letter_times(item) for item in value])


def _is_letter_times(value):
    """Whether a value is a tuple of a small letter and a count."""
    return isinstance(value, tuple) and len(value) == 2 and is_letter(value[0]) and is_count(value[1])


def check_far(value):
    """Refuse what is no far word."""
    if not is_far(value):
        raise InvalidFar(value)


def _check_far_joints(far, joints):
    """Refuse what is no far word, then what are no joints."""
    check_far(far)
    check_joints(joints)


def length_of(runs):
    """How many signs all of some runs have."""
    return sum([times for _, times in runs])


def runs_of(items):
    """The runs of some tuples of a sign and a count: no count is 0, and no sign stands in two side by side."""
    runs = []
    for sign, times in items:
        if times > 0:
            if runs and runs[-1][0] == sign:
                runs[-1] = (sign, runs[-1][1] + times)
            else:
                runs.append((sign, times))
    return runs


def far_length(far):
    """How many letters a far word has."""
    check_far(far)
    return length_of(far)


def _check_place(far, place):
    """Refuse what is no place of a far word."""
    if not is_count(place) or place >= length_of(far):
        raise InvalidNumber(place)


def letter_at(far, place):
    """The letter at a place of a far word."""
    check_far(far)
    _check_place(far, place)
    return _sides_of(far, place)[1]


def run_at(runs, place):
    """The spot of the run in which a place is, and how many of its signs are ahead of the place."""
    spot = 0
    while place >= runs[spot][1]:
        place -= runs[spot][1]
        spot += 1
    return spot, place


def _sides_of(runs, place):
    """The runs ahead of a place, the sign at it, and the runs behind it; some of the runs may be empty."""
    spot, ahead = run_at(runs, place)
    sign, times = runs[spot]
    return runs[:spot] + [(sign, ahead)], sign, [(sign, times - ahead - 1)] + runs[spot + 1:]


def plain_far(far):
    """The runs of a far word."""
    check_far(far)
    return runs_of(far)


def far_word(far):
    """The word that a far word stands for."""
    check_far(far)
    size = length_of(far)
    if size > LONGEST:
        raise TooLong(size)
    return "".join([letter * times for letter, times in far])


def _swapped_runs(runs, joints, place):
    """The runs that the deed at a place makes, None if no joint stands there."""
    if not is_count(place) or place >= length_of(runs):
        return None
    ahead, letter, behind = _sides_of(runs, place)
    return runs_of(behind + [(letter, 1)] + ahead) if letter in joints else None


def far_swapped(far, joints, place):
    """The far word that the deed at a place makes."""
    _check_far_joints(far, joints)
    made = _swapped_runs(far, joints, place)
    if made is None:
        raise InvalidNumber(place)
    return made


def far_done(far, joints, road):
    """The far word to which a road leads."""
    _check_far_joints(far, joints)
    if not isinstance(road, list):
        raise InvalidRoad(road)
    made = runs_of(far)
    for place in road:
        made = _swapped_runs(made, joints, place)
        if made is None:
            raise InvalidRoad(road)
    return made


def letter_after(far, place, many, spot):
    """The letter at a place of the word to which so many deeds at one place lead, if all letters are joints."""
    check_far(far)
    _check_place(far, place)
    check_count(many)
    _check_place(far, spot)
    return _sides_of(far, _place_before(length_of(far) + 1, place + 1, many, spot))[1]


def _place_before(cells, jump, many, spot):
    """The place at first of the letter that is at a spot behind so many jumps of the hole over so many cells.

    The hole goes by all cells as far apart as the greatest number that divides the jump and the ring. On each such
    way round, the letters are turned by one cell of it.
    """
    hole = (cells - 1 + many * jump) % cells
    cell = (hole + 1 + spot) % cells
    shared = gcd(cells, jump)
    if (cell + 1) % shared != 0:
        return cell
    stops = cells // shared
    # How many jumps behind the first cell of the hole the cell is.
    behind = (cell + 1) // shared * _inverse_of(jump // shared, stops) % stops
    rounds, jumps = many // stops, many % stops
    if behind < jumps:
        behind += 1
    return ((behind - 1 + rounds) % (stops - 1) + 1) * jump % cells - 1


def _inverse_of(number, modulus):
    """What a number has to be multiplied by, so that 1 is left if it is divided by another one."""
    first, second, factor, other = modulus, number % modulus, 0, 1
    while second:
        many = first // second
        first, second = second, first - many * second
        factor, other = other, factor - many * other
    return factor % modulus


def starred_ring(far, joints):
    """The runs of the ring of a far word with "*" for each joint and the hole, from its first letter on."""
    return runs_of([("*" if letter in joints else letter, times) for letter, times in far] + [("*", 1)])


def first_round(runs):
    """The runs of a ring, read round from the run with which its text is the first; no sign is in two side by side."""
    if len(runs) > 1 and runs[0][0] == runs[-1][0]:
        runs = [(runs[0][0], runs[-1][1] + runs[0][1])] + runs[1:-1]
    signs = [sign for sign, _ in runs]
    keys = []
    for (sign, times), after in zip(runs, signs[1:] + signs[:1]):
        # A shorter run is ahead of a longer one if an earlier sign comes behind it.
        keys.append((sign, 0, times) if after < sign else (sign, 1, -times))
    return min([(keys[spot:] + keys[:spot], runs[spot:] + runs[:spot]) for spot in range(len(runs))])[1]


def star_runs(far, joints):
    """The star ring of a far word, as runs."""
    _check_far_joints(far, joints)
    return first_round(starred_ring(far, joints))


def far_parting(one, other, joints):
    """What keeps two far words apart; None if the one comes to the other."""
    check_far(one)
    check_far(other)
    check_joints(joints)
    first, second = star_runs(one, joints), star_runs(other, joints)
    if first != second:
        return ("ring", first, second)
    for letter in joints:
        many, wanted = times_of(one, letter), times_of(other, letter)
        if many != wanted:
            return ("joint", letter, many, wanted)
    return None


def times_of(far, letter):
    """How often a letter stands in a far word."""
    return sum([times for each, times in far if each == letter])
