"""Placings: what a program does to the places of all words of so many letters, told without any word."""

from math import lcm

from sideswaps.errors import InvalidNumber, InvalidRoad
from sideswaps.words import is_count

MOST_SIZE = 60


def check_size(value):
    """Refuse what is no count of so many letters, or joints, as programs are told for."""
    if not is_count(value) or value > MOST_SIZE:
        raise InvalidNumber(value)


def is_program(value, size):
    """Whether a value is a list of counts below a size."""
    return isinstance(value, list) and all([is_count(place) and place < size for place in value])


def check_program(value, size):
    """Refuse what is no list of counts below a size."""
    if not is_program(value, size):
        raise InvalidRoad(value)


def walked(size, program):
    """What a program does: for each place the place at first of the letter that stands there then.

    And, for each place of the program, the place at first of the letter that jumps.
    """
    ring = list(range(size + 1))
    hole = size
    jumped = []
    for place in program:
        cell = (hole + place + 1) % (size + 1)
        jumped.append(ring[cell])
        ring[hole] = ring[cell]
        hole = cell
    return ring[hole + 1:] + ring[:hole], jumped


def moves_by(size, program):
    """For each place the place at first of the letter that stands there behind a program."""
    return walked(size, program)[0]


def rounds_of(moves):
    """The rounds of a placing: lists of places, behind each of which stands the one that is moved to it."""
    seen = [False] * len(moves)
    rounds = []
    for start, first in enumerate(moves):
        if not seen[start]:
            seen[start] = True
            found, place = [start], first
            while place != start:
                seen[place] = True
                found.append(place)
                place = moves[place]
            rounds.append(found)
    return rounds


def moves_again(moves, times):
    """What a placing does that is done so many times, one behind the other."""
    made = list(moves)
    for found in rounds_of(moves):
        shift = times % len(found)
        for place, origin in zip(found, found[shift:] + found[:shift]):
            made[place] = origin
    return made


def times_to_return(moves):
    """The least number of times, from 1 on, after which a placing has moved nothing."""
    many = 1
    for found in rounds_of(moves):
        many = lcm(many, len(found))
    return many


def taken(things, moves):
    """The things, a list or a string, that a placing brings to the places, as a list."""
    return [things[place] for place in moves]
