"""Machines: sets of words told by states."""

from sideswaps.errors import InvalidJoints, InvalidList, InvalidMachine, InvalidNumber, InvalidWord, TooMany
from sideswaps.patterns import patterns
from sideswaps.sheets import Sheet
from sideswaps.states import least_table, state_behind
from sideswaps.words import check_joints, check_word, is_count, is_joints, is_word, sides_changed

MOST_LETTERS = 4
MOST_STATES = 60
MOST_WAYS = 600
LONGEST_INTO = 3


class Machine:
    """A machine that lets words."""

    def __init__(self, letters, moves, ends):
        if not is_joints(letters) or not 1 <= len(letters) <= MOST_LETTERS:
            raise InvalidJoints(letters)
        if not _are_moves(moves, len(letters)):
            raise InvalidList(moves)
        if not _are_ends(ends, len(moves)):
            raise InvalidList(ends)
        self._letters = letters
        self._moves = [list(row) for row in moves]
        self._ends = list(ends)

    def letters(self):
        """The letters of the machine."""
        return self._letters

    def moves(self):
        """For each state the list of the states to which the letters lead."""
        return [list(row) for row in self._moves]

    def ends(self):
        """The states at which a word is let."""
        return list(self._ends)

    def __eq__(self, other):
        return (
            isinstance(other, Machine) and self._letters == other._letters and self._moves == other._moves
            and self._ends == other._ends
        )


def _are_moves(value, size):
    """Whether a value is a list of states, each a list of so many of their numbers."""
    if not isinstance(value, list) or not 1 <= len(value) <= MOST_STATES:
        return False
    return all([isinstance(row, list) and len(row) == size and _are_states(row, len(value)) for row in value])


def _are_states(numbers, many):
    """Whether all of some values are numbers of so many states."""
    return all([is_count(number) and number < many for number in numbers])


def _are_ends(value, many):
    """Whether a value is a list of some of so many states, each once, in order."""
    if not isinstance(value, list) or not _are_states(value, many):
        return False
    return all([first < second for first, second in zip(value, value[1:])])


def check_machine(value):
    """Refuse what is no machine."""
    if not isinstance(value, Machine):
        raise InvalidMachine(value)


def let_list(machine):
    """For each state of a machine whether it lets."""
    ends = machine.ends()
    return [state in ends for state in range(len(machine.moves()))]


def machine_of(letters, moves, let):
    """The machine of a table."""
    return Machine(letters, moves, [state for state, each in enumerate(let) if each])


def table_of(machine):
    """The smallest table that lets the words that a machine lets."""
    moves = machine.moves()
    return least_table(moves, let_list(machine), machine.letters(), len(moves))


def lets(machine, word):
    """Whether a machine lets a word."""
    check_machine(machine)
    check_word(word)
    if not all([letter in machine.letters() for letter in word]):
        return False
    return state_behind(_steps_of(machine), word) in machine.ends()


def _steps_of(machine):
    """For each state of a machine a dict of the states to which the letters lead."""
    return [dict(zip(machine.letters(), row)) for row in machine.moves()]


def least_machine(machine):
    """The machine with as few states as can be that lets the same words."""
    check_machine(machine)
    moves, let = table_of(machine)
    return machine_of(machine.letters(), moves, let)


def _ways_led(moves, letters):
    """The unlike ways in which words lead all states, each with the first such word, in the order of these words."""
    start = tuple(range(len(moves)))
    words = {start: ""}
    order = [start]
    spot = 0
    while spot < len(order):
        way, text = order[spot], words[order[spot]]
        for at, letter in enumerate(letters):
            made = tuple([moves[state][at] for state in way])
            if made not in words:
                words[made] = text + letter
                order.append(made)
        if len(order) > MOST_WAYS:
            raise TooMany(MOST_WAYS + 1)
        spot += 1
    return words


def led_out(machine, joints):
    """The first word that is let from which a deed leads to one that is not, and the first place of such a deed.

    None if the machine is closed under the joints.
    """
    check_machine(machine)
    check_joints(joints)
    outs = _words_led_out(machine)
    found = [outs[letter] for letter in outs if letter in joints and outs[letter] is not None]
    if not found:
        return None
    word = min(found)[1]
    places = [place for place, letter in enumerate(word) if letter in joints]
    return (word, [place for place in places if not lets(machine, sides_changed(word, place))][0])


def closed_joints(machine):
    """The letters of a machine under each of which, as the only joint, it is closed."""
    check_machine(machine)
    outs = _words_led_out(machine)
    return "".join([letter for letter in outs if outs[letter] is None])


def _words_led_out(machine):
    """For each letter of a machine the first word, behind its length, that is let and that a deed at it leads out.

    None for a letter at which no deed does.
    """
    letters = machine.letters()
    moves, let = table_of(machine)
    ways = _ways_led(moves, letters)
    # What a part behind the joint does is told by two states: to which it leads from behind the joint, and from 0.
    behind = {}
    for way, text in ways.items():
        for state, made in enumerate(way):
            if let[made]:
                behind.setdefault((state, way[0]), text)
    found = {}
    for at, letter in enumerate(letters):
        leads = [row[at] for row in moves]
        words = [
            text + letter + behind[(leads[way[0]], state)] for way, text in ways.items()
            for state, made in enumerate(leads) if not let[way[made]] and (leads[way[0]], state) in behind
        ]
        found[letter] = min([(len(word), word) for word in words], default=None)
    return found


def _check_over(machine, word, joints):
    """Refuse what is no machine, then what is no word over its letters, then what are no joints."""
    check_machine(machine)
    if not is_word(word) or not all([letter in machine.letters() for letter in word]):
        raise InvalidWord(word)
    check_joints(joints)


def how_many_let(machine, word, joints):
    """How many words that a machine lets come of a word."""
    _check_over(machine, word, joints)
    moves, let = table_of(machine)
    return sum([sheet.many() for sheet in _sheets(machine.letters(), moves, let, word, joints)])


def first_let(machine, word, joints):
    """The first word that a machine lets and that comes of a word, None if there is none."""
    _check_over(machine, word, joints)
    moves, let = table_of(machine)
    return _first_of(_sheets(machine.letters(), moves, let, word, joints))


def first_barred(machine, word, joints):
    """The first word that a machine does not let and that comes of a word, None if all are let."""
    _check_over(machine, word, joints)
    moves, let = table_of(machine)
    return _first_of(_sheets(machine.letters(), moves, [not each for each in let], word, joints))


def _sheets(letters, moves, let, word, joints):
    """For each pattern of the class of a word a sheet of which of its words a table lets."""
    leads = {letter: [row[at] for row in moves] for at, letter in enumerate(letters)}
    kept = sorted({letter for letter in word if letter in joints})
    held = [word.count(letter) for letter in kept]
    return [Sheet(pattern, kept, held, leads, let) for pattern in patterns(word, joints)]


def _first_of(sheets):
    """The first word that is let on some sheets, None if none is."""
    return min([sheet.first() for sheet in sheets if sheet.many() > 0], default=None)


def road_into(machine, word, joints, most):
    """The first one of the shortest roads from a word to one that a machine lets, None if it has too many places."""
    _check_over(machine, word, joints)
    if not is_count(most) or most > LONGEST_INTO:
        raise InvalidNumber(most)
    steps, ends = _steps_of(machine), machine.ends()
    roads, level = {word: []}, [word]
    for size in range(most + 1):
        for text in level:
            if state_behind(steps, text) in ends:
                return roads[text]
        level = _words_behind(level, joints, roads) if size < most else []
    return None


def _words_behind(level, joints, roads):
    """The words that one deed makes of some words, but for those to which a road is known; the new roads are kept.

    If the words are in the order of their roads, the new ones are, and each road is the first one as short.
    """
    later = []
    for text in level:
        for place, letter in enumerate(text):
            if letter in joints:
                made = sides_changed(text, place)
                if made not in roads:
                    roads[made] = roads[text] + [place]
                    later.append(made)
    return later
