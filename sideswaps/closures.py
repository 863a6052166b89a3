"""What one deed makes of the words that a machine lets."""

from sideswaps.errors import TooMany, Unlike
from sideswaps.machines import MOST_STATES, check_machine, machine_of, table_of
from sideswaps.needs import Needs, table_within
from sideswaps.states import least_table
from sideswaps.words import check_joints


def within_one(machine, joints):
    """The least machine that lets the words from which at most one deed leads to one that a machine lets."""
    check_machine(machine)
    check_joints(joints)
    moves, let = table_of(machine)
    rows, within = _least_within(moves, let, machine.letters(), joints)
    return machine_of(machine.letters(), rows, within)


def firm_one(machine, joints):
    """The least machine that lets the words that a machine lets and from which every deed leads to one that it lets."""
    check_machine(machine)
    check_joints(joints)
    moves, let = table_of(machine)
    # They are all words but those from which at most one deed leads to a word that is not let.
    rows, within = _least_within(moves, [not each for each in let], machine.letters(), joints)
    return machine_of(machine.letters(), rows, [not each for each in within])


def _least_within(moves, let, letters, joints):
    """The smallest table of the words from which at most one deed leads to a word that another table lets."""
    table = table_within(moves, let, letters, joints, MOST_STATES)
    least = None if table is None else least_table(table[0], table[1], letters, MOST_STATES)
    if least is None:
        raise TooMany(MOST_STATES + 1)
    return least


def beyond_one(one, other, joints):
    """The first word that one machine lets from which at most one deed leads to no word that another one lets."""
    check_machine(one)
    check_machine(other)
    check_joints(joints)
    if one.letters() != other.letters():
        raise Unlike(other)
    moves, let = table_of(other)
    return _first_word_apart(table_of(one), Needs(moves, let, one.letters(), joints), one.letters())


def _first_word_apart(table, needs, letters):
    """The first word that a table lets and from which at most one deed leads to none that is let, None if none is."""
    moves, let = table
    words = {(0, 0): ""}
    order = [(0, 0)]
    spot = 0
    while spot < len(order):
        state, beside = order[spot]
        text = words[order[spot]]
        if let[state] and not needs.is_within(beside):
            return text
        for letter, led, along in zip(letters, moves[state], needs.row_of(beside)):
            if (led, along) not in words:
                words[(led, along)] = text + letter
                order.append((led, along))
        spot += 1
    return None
