"""Blocks: how jumps of told widths order the joints of a word, and what they can not bring about."""

from sideswaps.counting import divisors_of, orders_of
from sideswaps.errors import InvalidNumber, TooMany
from sideswaps.grounds import Ground, edges_beside, tree_from, way_up, within_block
from sideswaps.jumps import check_jumps, check_two_jumps
from sideswaps.laying import lies_leading
from sideswaps.patterns import orders_told
from sideswaps.placings import rounds_of
from sideswaps.words import is_count

MOST_ORDERS = 5040


def blocks(word, joints, widths):
    """The cells and the kinds of the blocks to which the hole can come, in order."""
    check_jumps(word, joints, widths)
    ground = Ground(word, joints, widths)
    return [(list(cells), kind) for cells, kind in zip(ground.cells, ground.kinds)]


def jump_size(word, joints, widths):
    """How many words come of a word by let deeds."""
    check_jumps(word, joints, widths)
    ground = Ground(word, joints, widths)
    many = len(ground.ahead)
    for number in range(len(ground.cells)):
        many *= _how_many_orders(ground, number)
    # The turnings that lead the ring to one that can be come to are the same for each of these rings, and are all those
    # by so many cells as divide the ring, once, twice and so on.
    cells = len(word) + 1
    shifts = [shift for shift in divisors_of(cells) if bar_by(ground, ring_turned(word, shift), joints) is None]
    return many // (cells // shifts[0])


def block_orders(word, joints, widths, number):
    """All lists of letters that can stand on the stars of a block when the hole is back."""
    check_jumps(word, joints, widths)
    ground = Ground(word, joints, widths)
    if not is_count(number) or number >= len(ground.cells):
        raise InvalidNumber(number)
    many = _how_many_orders(ground, number)
    if many > MOST_ORDERS:
        raise TooMany(many)
    return [list(order) for order in _orders_of_block(ground, number)]


def jumps_lead(one, other, joints, widths):
    """Whether one word comes to another one by let deeds."""
    check_two_jumps(one, other, joints, widths)
    found = lies_leading(one, other, joints)
    if not found:
        return False
    ground = Ground(one, joints, widths)
    for turning in found:
        if bar_by(ground, ring_turned(other, turning), joints) is None:
            return True
    return False


def jump_bars(one, other, joints, widths):
    """For each turning what hinders that one word comes to another one by let deeds; None if it does come."""
    check_two_jumps(one, other, joints, widths)
    turnings = range(len(one) + 1)
    if len(one) != len(other):
        return [(turning, "length", []) for turning in turnings]
    ground = Ground(one, joints, widths)
    bars = []
    for turning in turnings:
        bar = bar_by(ground, ring_turned(other, turning), joints)
        if bar is None:
            return None
        bars.append((turning, bar[0], bar[1]))
    return bars


def ring_turned(word, turning):
    """What the ring of a word, turned, has at each cell of the ring on which it is laid."""
    ring = word + "_"
    cut = len(ring) - turning
    return ring[cut:] + ring[:cut]


def bar_by(ground, wanted, joints):
    """What hinders that let deeds bring what is wanted into the cells: the tuple of a reason and of cells, or None."""
    wrong = [cell for cell, sign in enumerate(wanted) if ground.ring[cell] != sign]
    bodies = [cell for cell in wrong if not _are_stars(ground.ring[cell] + wanted[cell], joints)]
    if bodies:
        return ("bodies", bodies)
    hole = wanted.index("_")
    if hole not in ground.ahead:
        return ("hole", sorted([ground.ring.index("_"), hole]))
    still = [cell for cell in wrong if cell not in ground.ahead]
    if still:
        return ("still", still)
    signs, entries = ground.led(hole)
    for number, cells in enumerate(ground.cells):
        spots = _spots(ground, number, entries[number])
        there, due = "".join([signs[cell] for cell in spots]), "".join([wanted[cell] for cell in spots])
        if there != due and not _is_brought(ground, number, entries[number], there, due):
            return ("block", list(cells))
    return None


def _are_stars(signs, joints):
    """Whether all of some signs are joints or the hole."""
    return all([sign in joints or sign == "_" for sign in signs])


def _spots(ground, number, entry):
    """The cells of a block but one, ascending, or in their order round it from this one on, if it is round."""
    way = ground.ways[number]
    if way:
        spot = way.index(entry)
        return way[spot + 1:] + way[:spot]
    return [cell for cell in ground.cells[number] if cell != entry]


def _is_brought(ground, number, entry, there, due):
    """Whether letters on the spots of a block can be brought into an order."""
    if sorted(there) != sorted(due):
        return False
    kind = ground.kinds[number]
    if kind == "round":
        return due in there + there
    if kind == "even":
        return _are_some_alike(there) or _is_even_order([there.index(letter) for letter in due])
    if kind == "seven":
        return due in _orders_of_seven(ground, number, entry, there)
    return kind == "all"


def _are_some_alike(letters):
    """Whether some letters of a string are alike."""
    return len(set(letters)) < len(letters)


def _is_even_order(order):
    """Whether an order of the counts below a number is made by an even number of exchanges."""
    return (len(order) - len(rounds_of(order))) % 2 == 0


def _orders_of_seven(ground, number, entry, letters):
    """All orders into which the letters of a block of seven stars, but for one star, can be brought, as dict keys."""
    cells = ground.cells[number]
    kept = [cell for cell in cells if cell != entry]
    within = within_block(cells, ground.near)
    ahead = tree_from(within, entry)
    # The hole can go any way out and back by going some of these rounds, one behind the other, each of which leads up
    # the tree on the one side of two near stars that are not beside each other in it, and down on the other side.
    rounds = []
    for one, other in edges_beside(within, ahead):
        stands = {cell: cell for cell in cells}
        hole = entry
        for cell in way_up(ahead, one)[::-1] + way_up(ahead, other):
            stands[hole] = stands[cell]
            hole = cell
        rounds.append([kept.index(stands[cell]) for cell in kept])
    found, order = {letters: True}, [letters]
    spot = 0
    while spot < len(order):
        for moves in rounds:
            made = "".join([order[spot][place] for place in moves])
            if made not in found:
                found[made] = True
                order.append(made)
        spot += 1
    return found


def _letters_on(ground, number):
    """The letters on the spots of a block when the hole is back."""
    return "".join([ground.ring[cell] for cell in _spots(ground, number, ground.entries[number])])


def _how_many_orders(ground, number):
    """Into how many orders the letters of a block can be brought when the hole is back."""
    letters, kind = _letters_on(ground, number), ground.kinds[number]
    if kind == "pair":
        return 1
    if kind == "round":
        return (letters + letters).find(letters, 1)
    if kind == "seven":
        return len(_orders_of_seven(ground, number, ground.entries[number], letters))
    many = orders_of([letters.count(letter) for letter in sorted(set(letters))])
    return many // 2 if kind == "even" and not _are_some_alike(letters) else many


def _orders_of_block(ground, number):
    """The orders, in order, into which the letters of a block can be brought when the hole is back."""
    letters, kind = _letters_on(ground, number), ground.kinds[number]
    if kind == "pair":
        return [letters]
    if kind == "round":
        return _orders_round(letters, _spots(ground, number, ground.entries[number]))
    if kind == "seven":
        return sorted(list(_orders_of_seven(ground, number, ground.entries[number], letters)))
    if kind == "even" and not _are_some_alike(letters):
        return _orders_even(letters)
    return orders_told(sorted(letters))


def _orders_round(letters, spots):
    """The orders, in order, in which letters can stand on the spots of a round block, told by ascending cells."""
    places = [spots.index(cell) for cell in sorted(spots)]
    turned = [letters[shift:] + letters[:shift] for shift in range((letters + letters).find(letters, 1))]
    return sorted(["".join([text[place] for place in places]) for text in turned])


def _orders_even(letters):
    """The orders, in order, that an even number of exchanges makes of unlike letters."""
    first = "".join(sorted(letters))
    told = [("", first, _is_even_order([first.index(letter) for letter in letters]))]
    for _ in letters:
        # The letter at the spot 1, 3 and so on is brought to the front by an odd number of exchanges.
        told = [
            (text + letter, left[:spot] + left[spot + 1:], is_even if spot % 2 == 0 else not is_even)
            for text, left, is_even in told for spot, letter in enumerate(left)
        ]
    return [item[0] for item in told if item[2]]
