"""Grounds: the stars of a word to which the hole can come by jumps of told widths, and the blocks of these."""


class Ground:
    """The stars of a word to which the hole can come, from each of them the next one on a way to the hole, and blocks.

    A block is told by the list of its cells, its kind, the star through which the hole comes into it, and, if it is
    round, the list of its cells in their order round it.
    """

    def __init__(self, word, joints, widths):
        self.ring = word + "_"
        self.near = _near_stars(word, joints, widths)
        self.ahead = tree_from(self.near, len(word))
        labels = _labels_of(self.near, self.ahead)
        found = sorted([_block_of(label, labels, self.ahead) for label in sorted(set(list(labels.values())))])
        number = {block[2]: spot for spot, block in enumerate(found)}
        self.block_of = {cell: number[label] for cell, label in labels.items()}
        self.cells = [block[0] for block in found]
        self.entries = [block[1] for block in found]
        withins = [within_block(cells, self.near) for cells in self.cells]
        self.kinds = [_kind_of(within) for within in withins]
        self.ways = [_way_round(within) if kind == "round" else [] for within, kind in zip(withins, self.kinds)]

    def led(self, cell):
        """What is in the cells if the hole is led to a star, and through which star it then comes into each block."""
        way = []
        while self.ahead[cell] != cell:
            way.append(cell)
            cell = self.ahead[cell]
        signs, entries = list(self.ring), list(self.entries)
        for star in way[::-1]:
            signs[cell], signs[star] = signs[star], "_"
            entries[self.block_of[star]] = star
            cell = star
        return signs, entries


def _near_stars(word, joints, widths):
    """For each star of a word the list of the stars that are near to it, ascending."""
    size = len(word) + 1
    stars = {cell: True for cell, letter in enumerate(word + "_") if letter in joints or cell == len(word)}
    kept = [width for width in widths if width < size]
    jumps = sorted(set(kept + [size - width for width in kept]))
    return {
        cell: sorted([(cell + jump) % size for jump in jumps if (cell + jump) % size in stars]) for cell in stars
    }


def tree_from(near, root):
    """For each star that hangs together with one the next one on a shortest way to it; for itself it is this one."""
    ahead = {root: root}
    order = [root]
    spot = 0
    while spot < len(order):
        for cell in near[order[spot]]:
            if cell not in ahead:
                ahead[cell] = order[spot]
                order.append(cell)
        spot += 1
    return ahead


def edges_beside(near, ahead):
    """The tuples of two near stars of a tree that are not beside each other in it."""
    return [
        (one, other) for one in ahead for other in near[one]
        if one < other and ahead[one] != other and ahead[other] != one
    ]


def way_up(ahead, cell):
    """The stars of a tree from one on to its root."""
    way = [cell]
    while ahead[way[-1]] != way[-1]:
        way.append(ahead[way[-1]])
    return way


def _labels_of(near, ahead):
    """For each star of a tree but its root a label, alike for two of them if the ways ahead of them are in one block.

    Two near stars that are not beside each other in the tree close a round with the ways ahead of them up to where
    these meet, all of which are in one block; and no other ways are, but by several such rounds. Neither of the two is
    the root, as all stars near to it are beside it in the tree.
    """
    labels = {cell: cell for cell in ahead if ahead[cell] != cell}
    for one, other in edges_beside(near, ahead):
        if labels[one] != labels[other]:
            first, second = way_up(ahead, one), way_up(ahead, other)
            met = [cell for cell in second if cell in first][0]
            joined = [labels[cell] for cell in first[:first.index(met)] + second[:second.index(met)]]
            labels = {cell: joined[0] if label in joined else label for cell, label in labels.items()}
    return labels


def _block_of(label, labels, ahead):
    """The block of a label: its cells, ascending, the star through which the hole comes into it, and the label."""
    cells = [cell for cell in labels if labels[cell] == label]
    entries = [ahead[cell] for cell in cells if labels.get(ahead[cell]) != label]
    return sorted(cells + entries[:1]), entries[0], label


def _kind_of(within):
    """The kind of a block, told by its near stars."""
    if len(within) == 2:
        return "pair"
    counts = sorted([len(others) for others in within.values()])
    if counts[-1] == 2:
        return "round"
    if counts == [2, 2, 2, 2, 2, 3, 3] and _is_seven(within):
        return "seven"
    return "even" if _is_even(within) else "all"


def _way_round(within):
    """The stars of a round block in their order round it."""
    first = list(within)[0]
    way = [first, within[first][0]]
    while len(way) < len(within):
        way.append([cell for cell in within[way[-1]] if cell != way[-2]][0])
    return way


def within_block(cells, near):
    """For each star of a block the list of the stars of it that are near to it."""
    inside = {cell: True for cell in cells}
    return {cell: [other for other in near[cell] if other in inside] for cell in cells}


def _is_seven(within):
    """Whether a block with two stars near to three, and five near to two, has ways of one, two and two between them."""
    ends = [cell for cell, others in within.items() if len(others) == 3]
    # From the one star on, a way goes by stars that are near to two, and there is one way for each star near to it.
    lengths = []
    for start in within[ends[0]]:
        behind, cell, many = ends[0], start, 0
        while cell not in ends:
            behind, cell = cell, [other for other in within[cell] if other != behind][0]
            many += 1
        lengths.append(many)
    return sorted(lengths) == [1, 2, 2]


def _is_even(within):
    """Whether the stars of a block can be parted into two sets without near ones in the same set."""
    root = list(within)[0]
    ahead = tree_from(within, root)
    side = {}
    for cell in ahead:
        side[cell] = cell != root and not side[ahead[cell]]
    return all([side[one] != side[other] for one, other in edges_beside(within, ahead)])
