"""What one deed makes of the words that a machine lets."""

from sideswaps.errors import TooMany, Unlike
from sideswaps.machines import MOST_STATES, check_machine, machine_of, table_of
from sideswaps.states import least_table
from sideswaps.words import check_joints


def within_one(machine, joints):
    """The least machine that lets the words from which at most one deed leads to one that a machine lets."""
    check_machine(machine)
    check_joints(joints)
    moves, let = table_of(machine)
    rows, within = _within(moves, let, machine.letters(), joints)
    return _small_machine(machine.letters(), rows, within)


def firm_one(machine, joints):
    """The least machine that lets the words that a machine lets and from which every deed leads to one that it lets."""
    check_machine(machine)
    check_joints(joints)
    moves, let = table_of(machine)
    # They are all words but those from which at most one deed leads to a word that is not let.
    rows, within = _within(moves, [not each for each in let], machine.letters(), joints)
    return _small_machine(machine.letters(), rows, [not each for each in within])


def _small_machine(letters, rows, let):
    """The least machine that lets what a table lets."""
    least = least_table(rows, let, letters, MOST_STATES)
    if least is None:
        raise TooMany(MOST_STATES + 1)
    return machine_of(letters, least[0], least[1])


def _within(moves, let, letters, joints):
    """A table of the words from which at most one deed leads to a word that another table lets.

    Of a word that is begun, a state tells to which states it leads all states, and, for each state that the part
    behind a joint may lead to, where it stands with this part if the part ahead of the joint does what it then must.
    """
    start = (tuple(range(len(moves))), ((),) * len(moves))
    number, order = {start: 0}, [start]
    rows = []
    images = {}
    while len(rows) < len(order):
        row = []
        for at, letter in enumerate(letters):
            made = _gone_on(order[len(rows)], moves, let, at, letter in joints, images)
            if made not in number:
                number[made] = len(order)
                order.append(made)
            row.append(number[made])
        rows.append(row)
    return rows, [_is_within(let, way, parts) for way, parts in order]


def _gone_on(state, moves, let, at, is_joint, images):
    """The state of the table of one deed with one more letter, told by its number."""
    way, parts = state
    made = []
    for end, held in enumerate(parts):
        if (at, held) not in images:
            images[(at, held)] = tuple(sorted({moves[each][at] for each in held}))
        led = images[(at, held)]
        if is_joint and let[way[moves[end][at]]] and 0 not in led:
            # The part behind this joint begins here; if it leads to this end, the part ahead of it leads on to be let.
            led = (0,) + led
        made.append(led)
    return tuple([moves[each][at] for each in way]), tuple(made)


def _is_within(let, way, parts):
    """Whether a word is let, or a deed leads from it to one that is, by its state in the table of one deed."""
    return let[way[0]] or any([end in held for end, held in enumerate(parts)])


def beyond_one(one, other, joints):
    """The first word that one machine lets from which at most one deed leads to no word that another one lets."""
    check_machine(one)
    check_machine(other)
    check_joints(joints)
    if one.letters() != other.letters():
        raise Unlike(other)
    moves, let = table_of(other)
    rows, within = _within(moves, let, one.letters(), joints)
    return _first_word_apart(table_of(one), least_table(rows, within, one.letters(), len(rows)), one.letters())


def _first_word_apart(table, other, letters):
    """The first word that one table lets and another one does not, None if there is none."""
    moves, let = table
    rows, within = other
    words = {(0, 0): ""}
    order = [(0, 0)]
    spot = 0
    while spot < len(order):
        state, beside = order[spot]
        text = words[order[spot]]
        if let[state] and not within[beside]:
            return text
        for letter, led, along in zip(letters, moves[state], rows[beside]):
            if (led, along) not in words:
                words[(led, along)] = text + letter
                order.append((led, along))
        spot += 1
    return None
