"""Programs: places at which deeds are done, one after the other, in any word of so many letters."""

from math import factorial

from sideswaps.errors import InvalidList
from sideswaps.placings import check_program, check_size, is_program, moves_by, taken, walked
from sideswaps.words import check_word, is_count


def moves_of(size, program):
    """For each place the place at first of the letter that stands there behind a program."""
    check_size(size)
    check_program(program, size)
    return moves_by(size, program)


def done_by(word, program):
    """The word that a program makes of a word."""
    check_word(word)
    check_program(program, len(word))
    return "".join(taken(word, moves_by(len(word), program)))


def _check_two_programs(size, one, other):
    """Refuse what is no size, then what is no program for it, then what is no program for it."""
    check_size(size)
    check_program(one, size)
    check_program(other, size)


def parting_by(size, one, other):
    """The first word of so many letters of which two programs make unlike words, None if there is none."""
    _check_two_programs(size, one, other)
    spot = last_parted(moves_by(size, one), moves_by(size, other))
    return None if spot is None else "a" * spot + "b" + "a" * (size - spot - 1)


def last_parted(one, other):
    """The last of the places whose letters two placings bring to unlike places, None if there is none."""
    return max([max(first, second) for first, second in zip(one, other) if first != second], default=None)


def undone(size, program):
    """The program that undoes a program."""
    check_size(size)
    check_program(program, size)
    return [size - 1 - place for place in reversed(program)]


def joint_places(size, program):
    """The places of a word that have to bear joints, so that a program can be done."""
    check_size(size)
    check_program(program, size)
    return sorted(set(walked(size, program)[1]))


def _check_placing(value):
    """Refuse what is no list that has all counts below its length, each once."""
    if not isinstance(value, list) or not all([is_count(item) and item < len(value) for item in value]):
        raise InvalidList(value)
    if len(set(value)) != len(value):
        raise InvalidList(value)


def _wanted_by(placing, lie):
    """What a lie of the ring of a placing wants in each cell of the ring of the counts in order; the hole is last."""
    ring = placing + [len(placing)]
    cut = len(ring) - lie
    return ring[cut:] + ring[:cut]


def _lots_by(wanted):
    """How many cells the hole's lot has, and the list of how many each other lot has, if the counts are in order."""
    hole = len(wanted) - 1
    seen = [False] * len(wanted)
    lots = []
    for start in range(hole, -1, -1):
        many, cell = 0, start
        while not seen[cell]:
            seen[cell] = True
            many += 1
            cell = wanted[cell]
        if many > 1 or start == hole:
            lots.append(many)
    return lots[0], lots[1:]


def _places_by(lots):
    """How many places a program along a lie with such lots has at least."""
    first, others = lots
    return first - 1 + sum(others) + len(others)


def _lots_of_all(placing):
    """For each lie of a placing its lots."""
    return [_lots_by(_wanted_by(placing, lie)) for lie in range(len(placing) + 1)]


def fewest_places(placing):
    """The number of places of the shortest programs that move the letters so."""
    _check_placing(placing)
    return min([_places_by(lots) for lots in _lots_of_all(placing)])


def how_many_programs(placing):
    """How many shortest programs move the letters so."""
    _check_placing(placing)
    found = _lots_of_all(placing)
    least = min([_places_by(lots) for lots in found])
    return sum([_programs_along(lots) for lots in found if _places_by(lots) == least])


def _programs_along(lots):
    """How many shortest programs go along a lie with such lots."""
    first, others = lots
    wrong = first + sum(others)
    many = first * factorial(wrong + len(others) - 1) // factorial(wrong)
    for cells in others:
        many *= cells
    return many


def first_program(placing):
    """The first one of the shortest programs that move the letters so."""
    _check_placing(placing)
    return _first_of_shortest(placing)


def _first_of_shortest(placing):
    """The first one of the shortest programs for what surely is a placing."""
    values = [_places_by(lots) for lots in _lots_of_all(placing)]
    least = min(values)
    left = [_wanted_by(placing, lie) for lie, value in enumerate(values) if value == least]
    hole, spots = len(placing), list(range(len(placing) + 1))
    program = []
    for _ in range(least):
        # No lie of the least value is left behind but by a place that takes nothing off its value.
        steps = [_places_less(wanted, spots, hole) for wanted in left]
        place = min([min(places) for places in steps])
        program.append(place)
        left = [wanted for wanted, places in zip(left, steps) if place in places]
        cell = (hole + place + 1) % len(spots)
        sign = spots.index(cell)
        spots[sign], spots[-1] = hole, cell
        hole = cell
    return program


def _places_less(wanted, spots, hole):
    """The places at which a deed makes a value less, by what a lie wants in each cell, and where each sign is."""
    near, cell = {hole: True}, spots[wanted[hole]]
    places = [] if cell == hole else [cell - hole - 1]
    while cell != hole:
        near[cell] = True
        cell = spots[wanted[cell]]
    # A joint of a lot without the hole may jump wherever it stands, one of the hole's lot only where it is wanted.
    for cell, sign in enumerate(wanted):
        if cell not in near and spots[sign] != cell:
            places.append(cell - hole - 1)
    return [place % len(wanted) for place in places]


def programs_alike(size, programs):
    """The lists of the numbers of those of some programs that do the same to all words of so many letters."""
    check_size(size)
    if not isinstance(programs, list) or not all([is_program(program, size) for program in programs]):
        raise InvalidList(programs)
    found = {}
    for number, program in enumerate(programs):
        found.setdefault(tuple(moves_by(size, program)), []).append(number)
    return list(found.values())


def joined_program(size, one, other):
    """The first one of the shortest programs that do what one program and then another one do."""
    _check_two_programs(size, one, other)
    return _first_of_shortest(moves_by(size, one + other))
