"""Roads by jumps of told widths, and which widths are needed."""

from itertools import combinations

from sideswaps.blocks import bar_by, jumps_lead, ring_turned
from sideswaps.grounds import Ground
from sideswaps.jumps import check_two_jumps
from sideswaps.laying import lies_leading
from sideswaps.words import check_two

# So many bits are enough for any sign from "_" to "z", and FULL has them all.
BITS = 5
FULL = 31


def jump_road(one, other, joints, widths):
    """A shortest road with let deeds from one word to another one, None if there is none."""
    check_two_jumps(one, other, joints, widths)
    holes = _holes_on_way(one, other, joints, widths)
    if holes is None:
        return None
    return [(cell - hole - 1) % (len(one) + 1) for hole, cell in zip(holes, holes[1:])]


def jump_fewest(one, other, joints, widths):
    """How many deeds the shortest roads with let deeds from one word to another one have, None if there is none."""
    check_two_jumps(one, other, joints, widths)
    holes = _holes_on_way(one, other, joints, widths)
    return None if holes is None else len(holes) - 1


def _holes_on_way(one, other, joints, widths):
    """The cells in which the hole is, one behind the other, on a shortest road, None if there is none."""
    found = lies_leading(one, other, joints)
    if not found:
        return None
    ground = Ground(one, joints, widths)
    rings = [ring_turned(other, turning) for turning in found]
    goals = [ring for ring in rings if bar_by(ground, ring, joints) is None]
    if not goals:
        return None
    stars = sorted(ground.ahead)
    jumps = [[stars.index(cell) for cell in ground.near[star]] for star in stars]
    orders = [_order_of([ring[star] for star in stars]) for ring in [ground.ring] + goals]
    return [stars[spot] for spot in _shortest_way(orders[0], orders[1:], jumps)]


def _order_of(signs):
    """The signs on some stars as one number, with so many bits for each that the hole has no bit and no letter none."""
    return sum([(ord(sign) - ord("_")) << (spot * BITS) for spot, sign in enumerate(signs)])


def _hole_of(order, many):
    """The spot of the hole in an order of signs on so many stars."""
    return [spot for spot in range(many) if (order >> (spot * BITS)) & FULL == 0][0]


def _shortest_way(start, goals, jumps):
    """The spots of the hole on a shortest way from an order of signs to one of others, to which there is a way."""
    came, goes = {start: None}, {goal: None for goal in goals}
    last, first = [(start, _hole_of(start, len(jumps)))], [(goal, _hole_of(goal, len(jumps))) for goal in goals]
    shifts = [_shifts_of(hole, spots) for hole, spots in enumerate(jumps)]
    met = [order for order, _ in last if order in goes]
    while not met:
        # All ways from both ends are gone on with by one jump at a time, so that no shorter way is passed over.
        if len(last) <= len(first):
            last = _gone_on(last, came, shifts)
            met = [order for order, _ in last if order in goes]
        else:
            first = _gone_on(first, goes, shifts)
            met = [order for order, _ in first if order in came]
    way = _way_back(met[0], came)[::-1] + _way_back(met[0], goes)[1:]
    return [_hole_of(order, len(jumps)) for order in way]


def _shifts_of(hole, spots):
    """For each spot from which a sign may jump to the hole: the spot, how far its bits are, and how the sign counts."""
    return [(spot, spot * BITS, (1 << (hole * BITS)) - (1 << (spot * BITS))) for spot in spots]


def _gone_on(level, known, shifts):
    """The orders that one jump makes of some orders and that are not known; each is known then by what it came of."""
    later = []
    for order, hole in level:
        for spot, bits, change in shifts[hole]:
            made = order + ((order >> bits) & FULL) * change
            if made not in known:
                known[made] = order
                later.append((made, spot))
    return later


def _way_back(order, known):
    """The orders from one back to that from which all came."""
    way = [order]
    while known[way[-1]] is not None:
        way.append(known[way[-1]])
    return way


def least_widths(one, other, joints):
    """All lists of widths by which one word comes to another one, but by none of them with one number left out."""
    check_two(one, other, joints)
    if not lies_leading(one, other, joints):
        return []
    useful = _useful_widths(one, joints)
    found = []
    for many in range(len(useful) + 1):
        for widths in combinations(useful, many):
            if not _has_one_of(widths, found) and jumps_lead(one, other, joints, list(widths)):
                found.append(list(widths))
    return sorted(found)


def _useful_widths(word, joints):
    """The widths, ascending, of at most half the ring, by which any two stars of a word are near."""
    size = len(word) + 1
    stars = [cell for cell, letter in enumerate(word) if letter in joints] + [len(word)]
    apart = [other - one for one, other in combinations(stars, 2)]
    return sorted({min(width, size - width) for width in apart})


def _has_one_of(widths, found):
    """Whether widths have all numbers of one of some lists."""
    return any([all([width in widths for width in each]) for each in found])
