"""Ties: the unlike signs of two texts, the one laid on the other, and which exchanges take the most off their value."""


def ties_of(signs, wanted):
    """For each wrong cell the tuple of its sign and its wanted one."""
    return [(sign, want) for sign, want in zip(signs, wanted) if sign != want]


def lots_of(ties):
    """The list of the lots of some ties, in order."""
    lot_of = {}
    for sign, wanted in ties:
        first, second = lot_of.get(sign, sign), lot_of.get(wanted, wanted)
        if first != second:
            joined = "".join(sorted(first + second))
            for each in joined:
                lot_of[each] = joined
    return sorted(set(list(lot_of.values())))


def value_of_ties(ties, costs):
    """The value of some ties, by a dict of the price of each joint."""
    value = sum([costs[sign] for sign, _ in ties if sign != "_"])
    return value + sum([_least_cost(lot, costs) for lot in lots_of(ties) if "_" not in lot])


def _least_cost(lot, costs):
    """The least price of the signs of a lot without the hole."""
    return min([costs[sign] for sign in lot])


def exact_falls(signs, wanted, costs):
    """The tuples (cell, hole) of the cells of a joint and of a hole whose exchange takes just its price off the value.

    Only two kinds of exchanges do: one that ties a lot to the hole whose least price this joint has, and one that
    brings a wrong joint where it is wanted and cuts no lot off the hole.
    """
    ties = ties_of(signs, wanted)
    joining = _cheapest_of_lots(lots_of(ties), costs)
    wrong = [cell for cell, sign in enumerate(signs) if sign not in (wanted[cell], "_")]
    whole = {}
    found = []
    for hole in [cell for cell, sign in enumerate(signs) if sign == "_"]:
        for cell in wrong:
            tie = (signs[cell], wanted[cell])
            if tie[0] == wanted[hole] and tie not in whole:
                whole[tie] = _stays_whole(ties, tie)
            if tie[0] in joining or tie[0] == wanted[hole] and whole[tie]:
                found.append((cell, hole))
    return found


def _cheapest_of_lots(lots, costs):
    """The joints that have the least price of a lot without the hole."""
    found = []
    for lot in lots:
        if "_" not in lot:
            least = _least_cost(lot, costs)
            found.extend([sign for sign in lot if costs[sign] == least])
    return found


def _stays_whole(ties, tie):
    """Whether no lot is cut off the hole when the joint of a tie goes where the hole stands and it is wanted."""
    left = list(ties)
    left.remove(("_", tie[0]))
    left.remove(tie)
    # The hole is then tied to what was wanted where the joint stood; but this is tied to it by others anyway, as each
    # sign is wanted as often as it stands there.
    return _without_hole(left) == _without_hole(ties)


def _without_hole(ties):
    """How many lots of some ties are without the hole."""
    return len([lot for lot in lots_of(ties) if "_" not in lot])
