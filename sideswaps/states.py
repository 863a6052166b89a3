"""Tables of states: which words lead where, and the smallest tables that let the same words.

A table has, for each state, the list of the states to which the letters lead, one behind the other; a list beside it
tells for each state whether the words that lead to it, from the state 0 on, are let.
"""


def first_words_to(moves, letters):
    """For each state to which words lead, in the order of the first of these words, this first word."""
    words = {0: ""}
    order = [0]
    spot = 0
    while spot < len(order):
        text = words[order[spot]]
        for letter, made in zip(letters, moves[order[spot]]):
            if made not in words:
                words[made] = text + letter
                order.append(made)
        spot += 1
    return words


def least_table(moves, let, letters, most):
    """The smallest table that lets the same words, its states in the order of the first words that lead to them.

    None if the states fall into more unlike ones than a number.
    """
    groups = _groups_alike(moves, let, most)
    if groups is None:
        return None
    rows, lets = {}, {}
    for group, row, each in zip(groups, moves, let):
        rows[group] = [groups[made] for made in row]
        lets[group] = each
    order = list(first_words_to(rows, letters))
    number = {group: spot for spot, group in enumerate(order)}
    return [[number[made] for made in rows[group]] for group in order], [lets[group] for group in order]


def _groups_alike(moves, let, most):
    """For each state the number of its group: two are in one if the same words lead from them to states that let.

    The state 0 is in the group 0; None if there are more groups than a number.
    """
    groups, many = list(let), 0
    columns = [[row[at] for row in moves] for at in range(len(moves[0]))]
    while many <= most:
        numbers = {}
        led = [[groups[made] for made in column] for column in columns]
        parted = [numbers.setdefault(key, len(numbers)) for key in zip(groups, *led)]
        if len(numbers) == many:
            return groups
        groups, many = parted, len(numbers)
    return None


def state_behind(steps, word):
    """The state to which a word leads from the state 0, by a dict for each state of where each letter leads."""
    state = 0
    for letter in word:
        state = steps[state][letter]
    return state
