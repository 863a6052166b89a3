"""How far words are, and the farthest ones."""

from math import comb, perm

from sideswaps.errors import InvalidNumber, TooMany
from sideswaps.rings import ring_turns
from sideswaps.sizes import class_size
from sideswaps.words import check_prices, check_word, is_count, letters_priced, sides_changed

MOST_GONE_TO = 3000
MOST_JOINTS = 60


def spread(word, joints):
    """How many words come of a word by fewest 0, 1, 2 and so on deeds."""
    many = class_size(word, joints)
    if many > MOST_GONE_TO:
        raise TooMany(many)
    told = [1]
    seen = {word}
    level = [word]
    # Once all words of the class are seen, the last ones need not be gone on from.
    while len(seen) < many:
        later = []
        for each in level:
            for place, letter in enumerate(each):
                if letter in joints:
                    made = sides_changed(each, place)
                    if made not in seen:
                        seen.add(made)
                        later.append(made)
        told.append(len(later))
        level = later
    return told


def spread_of(count):
    """The spread of a word with a rigid star ring and so many joints, all unlike."""
    if not is_count(count) or count > MOST_JOINTS:
        raise InvalidNumber(count)
    told = [0] * (count + count // 2 + 1)
    for many, row in enumerate(_orders_by_rounds(count)):
        for led in range(count - many + 1):
            ways = perm(count, led) * comb(count - led, many)
            for rounds, orders in enumerate(row[:many // 2 + 1]):
                told[led + many + rounds] += ways * orders
    return told


def _orders_by_rounds(most):
    """For each count up to one, by numbers of rounds: how many orders of so many things leave none at its place."""
    rows = [[1] + [0] * (most // 2)]
    for many in range(1, most + 1):
        row = [0] * (most // 2 + 1)
        for rounds in range(1, many // 2 + 1):
            # The last thing is put into a round of at least two others, or with one of the others into a new one.
            row[rounds] = (many - 1) * (rows[many - 1][rounds] + rows[many - 2][rounds - 1])
        rows.append(row)
    return rows


def dearest(word, prices):
    """The greatest cheapest price from a word to one that comes of it, None if its star ring is not rigid."""
    groups = _best_parting(word, prices)
    if groups is None:
        return None
    costs = _costs_of(prices)
    return sum([_worth(word + "_", group, costs) for group in groups])


def farthest_word(word, prices):
    """A word that comes of a word at the greatest price, None if its star ring is not rigid."""
    groups = _best_parting(word, prices)
    if groups is None:
        return None
    ring = word + "_"
    signs = list(ring)
    for group in groups:
        cells, many = _cells_to_change(ring, group)
        for spot, cell in enumerate(cells):
            signs[cell] = ring[cells[(spot + many) % len(cells)]]
    hole = signs.index("_")
    return "".join(signs[hole + 1:] + signs[:hole])


def _costs_of(prices):
    """A dict of the price of each joint, and of the hole, which has none."""
    costs = dict(prices)
    costs["_"] = 0
    return costs


def _best_parting(word, prices):
    """A parting of the joints of a word and the hole into groups with the greatest sum of worths, each group a string.

    None if the star ring of the word is not rigid.
    """
    check_word(word)
    check_prices(prices)
    if ring_turns(word, letters_priced(prices)) != 1:
        return None
    ring, costs = word + "_", _costs_of(prices)
    kinds = [sign for sign in "_" + letters_priced(prices) if sign in ring]
    # Sets of kinds are numbers, with a bit for each kind.
    groups = [_chosen_of(kinds, chosen) for chosen in range(1 << len(kinds))]
    worths = [0] + [_worth(ring, group, costs) for group in groups[1:]]
    best, taken = [0], [0]
    for chosen in range(1, len(groups)):
        value, part = max([(worths[part] + best[chosen ^ part], part) for part in _parts_with_first(chosen)])
        best.append(value)
        taken.append(part)
    found, left = [], len(groups) - 1
    while left:
        found.append(groups[taken[left]])
        left ^= taken[left]
    return found


def _chosen_of(kinds, chosen):
    """The kinds, as one string, whose bits a number has."""
    return "".join([kind for bit, kind in enumerate(kinds) if (chosen >> bit) & 1])


def _parts_with_first(chosen):
    """The numbers of all sets that have the first one of some chosen kinds, and perhaps others of them."""
    first = chosen & -chosen
    rest = chosen ^ first
    found = [chosen]
    while found[-1] != first:
        found.append((((found[-1] ^ first) - 1) & rest) | first)
    return found


def _surplus(ring, group):
    """The most frequent sign of a group, and how many of it can not be wrong."""
    counts = {sign: ring.count(sign) for sign in group}
    frequent = max(group, key=lambda sign: counts[sign])
    return frequent, max(0, 2 * counts[frequent] - sum(list(counts.values())))


def _worth(ring, group, costs):
    """The worth of a group of joints, perhaps with the hole."""
    frequent, surplus = _surplus(ring, group)
    value = sum([ring.count(sign) * costs[sign] for sign in group]) - surplus * costs[frequent]
    if "_" in group or len(group) == 1:
        return value
    return value + min([costs[sign] for sign in group])


def _cells_to_change(ring, group):
    """The cells of a group that can all be wrong, equal signs side by side, and how many of one sign these are at most.

    As no sign has more than half of them, no cell keeps its sign if each gets that of the cell so many further on.
    """
    frequent, surplus = _surplus(ring, group)
    cells = []
    for sign in [frequent] + [each for each in group if each != frequent]:
        cells.extend([cell for cell, each in enumerate(ring) if each == sign])
    return cells[surplus:], ring.count(frequent) - surplus
