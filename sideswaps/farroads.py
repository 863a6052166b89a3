"""Cheapest roads of far words, and of families of such words for all numbers."""

from sideswaps.errors import InvalidFar, InvalidNumber, Unlike
from sideswaps.farwords import check_far, far_parting, length_of, run_at, runs_of, times_of
from sideswaps.ties import lots_of
from sideswaps.words import check_count, check_joints, check_prices, is_count, is_letter, letters_priced


def _ring_of(far):
    """The runs of the ring of a far word, from its first letter on."""
    return runs_of(far) + [("_", 1)]


def _read_from(runs, cell):
    """The runs of a ring, read round from a cell on."""
    spot, ahead = run_at(runs, cell)
    sign, times = runs[spot]
    return [(sign, times - ahead)] + runs[spot + 1:] + runs[:spot] + [(sign, ahead)]


def _wrong_cells(runs, wanted):
    """For each tuple of a sign and another, wanted one in how many cells they lie on each other."""
    found = {}
    spot, sign, left = 0, runs[0][0], runs[0][1]
    for want, many in wanted:
        while many > 0:
            if left == 0:
                spot += 1
                sign, left = runs[spot]
            step = min(left, many)
            if sign != want and step > 0:
                found[(sign, want)] = found.get((sign, want), 0) + step
            left -= step
            many -= step
    return found


def _value_along(wrong, costs):
    """The value of a lie, by its wrong cells, None if it does not fit."""
    value = 0
    for (sign, want), many in wrong.items():
        if sign != "_":
            if sign not in costs:
                return None
            value += costs[sign] * many
        if want != "_" and want not in costs:
            return None
    for lot in lots_of(list(wrong)):
        if lot[0] != "_":
            value += min([costs[sign] for sign in lot])
    return value


def _check_priced(one, other, prices):
    """Refuse what is no far word, then no far word, then no prices."""
    check_far(one)
    check_far(other)
    check_prices(prices)


def _stand_as_often(one, other, costs):
    """Whether two far words have as many letters, and each joint stands as often in both."""
    if length_of(one) != length_of(other):
        return False
    return all([times_of(one, letter) == times_of(other, letter) for letter in costs])


def far_lie(one, other, prices, number):
    """The value, the wrong cells and the lots of a lie of two far words, None if it leads from none to the other."""
    _check_priced(one, other, prices)
    if not is_count(number) or number > length_of(other):
        raise InvalidNumber(number)
    costs = dict(prices)
    if not _stand_as_often(one, other, costs):
        return None
    wrong = _wrong_cells(_read_from(_ring_of(one), number), _ring_of(other))
    value = _value_along(wrong, costs)
    if value is None:
        return None
    counts = {}
    for (sign, _), many in wrong.items():
        if sign != "_":
            counts[sign] = counts.get(sign, 0) + many
    return (value, [(letter, counts[letter]) for letter in sorted(counts)], lots_of(list(wrong)))


def far_cheapest(one, other, prices):
    """The least value of a lie of two far words, and the least number of such a lie; None if there is none."""
    _check_priced(one, other, prices)
    costs = dict(prices)
    if not _stand_as_often(one, other, costs):
        return None
    return _least_lie(_ring_of(one), _ring_of(other), costs)


def _least_lie(ring, wanted, costs):
    """The least value of a lie of two rings with the same joints, and the least number of such a lie; or None."""
    best = None
    for least, number in _lies_to_try(ring, wanted, costs):
        if best is not None and least > best[0]:
            return best
        value = _value_along(_wrong_cells(_read_from(ring, number), wanted), costs)
        if value is not None and (best is None or (value, number) < best):
            best = (value, number)
    return best


def _lies_to_try(ring, wanted, costs):
    """Tuples, in order, of what a lie costs at least and of its number; the first lie of the least value is one.

    If there is a body, only those lies can fit that bring a run of it on one as long.
    """
    cells = length_of(ring)
    starts, others = _starts_of(ring), _starts_of(wanted)
    bodies = [(start, run) for start, run in zip(others, wanted) if run[0] != "_" and run[0] not in costs]
    if not bodies:
        return sorted([(least, number) for number, least in _least_by_lie(ring, wanted, costs).items()])
    place, body = bodies[0]
    numbers = {(start - place) % cells for start, run in zip(starts, ring) if run == body}
    return [(0, number) for number in sorted(numbers)]


def _starts_of(runs):
    """The cells at which the runs of a ring begin."""
    starts = [0]
    for _, times in runs[:-1]:
        starts.append(starts[-1] + times)
    return starts


def _least_by_lie(ring, wanted, costs):
    """By lies that bring ends of runs on each other, and by those beside them: what the joints in wrong cells cost."""
    cells, turns = length_of(ring), _turns_of_price(ring, wanted, costs)
    price = _price_of_wrong(ring, wanted, costs)
    rise = _price_of_wrong(_read_from(ring, 1 % cells), wanted, costs) - price
    found = {}
    marks = sorted(turns)
    for number, after in zip(marks, marks[1:] + [cells]):
        if number > 0:
            rise += turns[number]
        found[number] = price
        # Up to the next such lie each one costs as much more as the one ahead of it.
        if after > number + 1:
            found[number + 1] = price + rise
            found[after - 1] = price + rise * (after - 1 - number)
        price += rise * (after - number)
    return found


def _price_of_wrong(ring, wanted, costs):
    """The price of all joints in wrong cells of two rings."""
    return sum([costs[sign] * many for (sign, _), many in _wrong_cells(ring, wanted).items() if sign != "_"])


def _turns_of_price(ring, wanted, costs):
    """For each lie that brings ends of runs on each other by how much more the price rises behind it than ahead of it.

    At such ends, two signs of the one ring are beside each other, and two of the other one.
    """
    cells = length_of(ring)
    ends = [(start, ring[spot - 1][0], ring[spot][0]) for spot, start in enumerate(_starts_of(ring))]
    found = {}
    for spot, place in enumerate(_starts_of(wanted)):
        left, right = wanted[spot - 1][0], wanted[spot][0]
        for start, ahead, behind in ends:
            turn = 0
            if ahead == left:
                turn += costs.get(ahead, 0)
            if behind == right:
                turn += costs.get(behind, 0)
            if ahead == right:
                turn -= costs.get(ahead, 0)
            if behind == left:
                turn -= costs.get(behind, 0)
            number = (start - place) % cells
            found[number] = found.get(number, 0) + turn
    return found


def _is_family(value):
    """Whether a value is a word family."""
    return isinstance(value, list) and all([_is_letter_growing(item) for item in value])


def _is_letter_growing(value):
    """Whether a value is a tuple of a small letter and two counts."""
    if not isinstance(value, tuple) or len(value) != 3:
        return False
    return is_letter(value[0]) and is_count(value[1]) and is_count(value[2])


def _check_family(value):
    """Refuse what is no word family."""
    if not _is_family(value):
        raise InvalidFar(value)


def _word_of(family, number):
    """The far word for which a family stands with a number."""
    return runs_of([(letter, start + step * number) for letter, start, step in family])


def family_word(family, n):
    """The far word for which a family stands with a number."""
    _check_family(family)
    check_count(n)
    return _word_of(family, n)


def family_parting(one, other, joints):
    """The least number with which the one word does not come to the other, and what keeps them apart; None if none."""
    _check_family(one)
    _check_family(other)
    check_joints(joints)
    # From 1 on the signs of the runs stay. Two turned rings whose runs are as long for two numbers are so for all, and
    # there are no more turnings than runs; so numbers one more than these tell of all.
    for number in range(len(one) + 3):
        parting = far_parting(_word_of(one, number), _word_of(other, number), joints)
        if parting is not None:
            return (number, parting)
    return None


def family_price(one, other, prices):
    """From which number on the least price grows evenly, what it is there, and by how much it grows."""
    _check_family(one)
    _check_family(other)
    check_prices(prices)
    parting = family_parting(one, other, letters_priced(prices))
    if parting is not None:
        raise Unlike(parting)
    return _line_at_last(one, other, dict(prices))


def _line_at_last(one, other, costs):
    """The tuple (since, value, step) of the line that the least price follows from the least number on."""
    settled = _settled_from(one, other)
    # From there on the least price is the least of lines, and once no lie costs more there, the last of them is least.
    late = settled + sum([costs.get(letter, 0) * times for letter, times in _word_of(one, settled)])
    late += sum(list(costs.values())) + 1
    price = _price_with(one, other, costs, late)
    step = _price_with(one, other, costs, late + 1) - price
    line = (late, price, step)
    since = settled
    if not _is_on_line(one, other, costs, since, line):
        since = _first_on_line(one, other, costs, settled, line)
    while 0 < since <= settled and _is_on_line(one, other, costs, since - 1, line):
        since -= 1
    return (since, price - step * (late - since), step)


def _first_on_line(one, other, costs, low, line):
    """The least number above a settled one that is not on the last line, with which the least price is on it."""
    since = line[0]
    # The least of lines is on the last one from some number on, and never ahead of it.
    while since - low > 1:
        middle = (low + since) // 2
        if _is_on_line(one, other, costs, middle, line):
            since = middle
        else:
            low = middle
    return since


def _is_on_line(one, other, costs, number, line):
    """Whether the least price with a number is on a line, told by a number, the price there, and how it grows."""
    place, price, step = line
    return _price_with(one, other, costs, number) == price - step * (place - number)


def _price_with(one, other, costs, number):
    """The least price between the words of two families with a number."""
    return _least_lie(_ring_of(_word_of(one, number)), _ring_of(_word_of(other, number)), costs)[0]


def _settled_from(one, other):
    """A number from which on the ends of runs of two families come on each other, and beside each other, in one order.

    How far two lies that bring ends on each other are apart is a start and a step, and so is the ring.
    """
    ends, others = _ends_growing(one), _ends_growing(other)
    apart = sorted({(start - first, step - second) for start, step in ends for first, second in ends})
    beside = sorted({(start - first, step - second) for start, step in others for first, second in others})
    cells, growing = ends[-1][0] + 1, ends[-1][1]
    latest = 1
    for start, step in apart:
        for first, second in beside:
            for rounds in range(3):
                more = abs(step - second + rounds * growing)
                if more > 0:
                    latest = max(latest, (abs(start - first + rounds * cells) + 2) // more + 1)
    return latest


def _ends_growing(family):
    """The cells at which the runs of a family begin, and the hole is, as tuples of a start and a step."""
    ends = [(0, 0)]
    for _, start, step in family:
        ends.append((ends[-1][0] + start, ends[-1][1] + step))
    return ends
