"""Roads by jumps of told widths, and which widths are needed."""

from itertools import combinations

from sideswaps.blocks import bar_by, jumps_lead, ring_turned
from sideswaps.grounds import Ground
from sideswaps.jumps import check_two_jumps
from sideswaps.laying import lies_leading
from sideswaps.words import check_two


def jump_road(one, other, joints, widths):
    """A shortest road with let deeds from one word to another one, None if there is none."""
    check_two_jumps(one, other, joints, widths)
    holes = _holes_on_way(one, other, joints, widths)
    if holes is None:
        return None
    return [(cell - hole - 1) % (len(one) + 1) for hole, cell in zip(holes, holes[1:])]


def jump_fewest(one, other, joints, widths):
    """How many deeds the shortest roads with let deeds from one word to another one have, None if there is none."""
    check_two_jumps(one, other, joints, widths)
    holes = _holes_on_way(one, other, joints, widths)
    return None if holes is None else len(holes) - 1


def _holes_on_way(one, other, joints, widths):
    """The cells in which the hole is, one behind the other, on a shortest road, None if there is none."""
    found = lies_leading(one, other, joints)
    if not found:
        return None
    ground = Ground(one, joints, widths)
    rings = [ring_turned(other, turning) for turning in found]
    goals = [ring for ring in rings if bar_by(ground, ring, joints) is None]
    if not goals:
        return None
    stars = sorted(ground.ahead)
    near = [[stars.index(cell) for cell in ground.near[star]] for star in stars]
    texts = ["".join([ring[star] for star in stars]) for ring in [ground.ring] + goals]
    return [stars[text.index("_")] for text in _shortest_way(texts[0], texts[1:], near)]


def _shortest_way(start, goals, near):
    """The orders of letters on some stars on a shortest way from one to one of others, to which there is a way."""
    came, goes = {start: None}, {goal: None for goal in goals}
    last, first = [start], goals
    met = [text for text in last if text in goes]
    while not met:
        # All ways from both ends are gone on with by one jump at a time, so that no shorter way is passed over.
        if len(last) <= len(first):
            last = _gone_on(last, came, near)
            met = [text for text in last if text in goes]
        else:
            first = _gone_on(first, goes, near)
            met = [text for text in first if text in came]
    return _way_back(met[0], came)[::-1] + _way_back(met[0], goes)[1:]


def _gone_on(level, known, near):
    """The orders that one jump makes of some orders and that are not known; each is known then by what it came of."""
    later = []
    for text in level:
        hole = text.index("_")
        for spot in near[hole]:
            left, right = min(hole, spot), max(hole, spot)
            made = text[:left] + text[right] + text[left + 1:right] + text[left] + text[right + 1:]
            if made not in known:
                known[made] = text
                later.append(made)
    return later


def _way_back(text, known):
    """The orders from one back to that from which all came."""
    way = [text]
    while known[way[-1]] is not None:
        way.append(known[way[-1]])
    return way


def least_widths(one, other, joints):
    """All lists of widths by which one word comes to another one, but by none of them with one number left out."""
    check_two(one, other, joints)
    if not lies_leading(one, other, joints):
        return []
    useful = _useful_widths(one, joints)
    found = []
    for many in range(len(useful) + 1):
        for widths in combinations(useful, many):
            if not _has_one_of(widths, found) and jumps_lead(one, other, joints, list(widths)):
                found.append(list(widths))
    return sorted(found)


def _useful_widths(word, joints):
    """The widths, ascending, of at most half the ring, by which any two stars of a word are near."""
    size = len(word) + 1
    stars = [cell for cell, letter in enumerate(word) if letter in joints] + [len(word)]
    apart = [other - one for one, other in combinations(stars, 2)]
    return sorted({min(width, size - width) for width in apart})


def _has_one_of(widths, found):
    """Whether widths have all numbers of one of some lists."""
    return any([all([width in widths for width in each]) for each in found])
