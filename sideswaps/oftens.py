"""Programs that are done several times, one behind the other."""

from math import lcm

from sideswaps.placings import check_program, check_size, moves_again, moves_by, rounds_of, taken, times_to_return
from sideswaps.placings import walked
from sideswaps.words import check_count, check_word


def moves_often(size, program, times):
    """For each place the place at first of the letter that stands there behind so many times a program."""
    check_size(size)
    check_program(program, size)
    check_count(times)
    return moves_again(moves_by(size, program), times)


def done_often(word, program, times):
    """The word that so many times a program make of a word."""
    check_word(word)
    check_program(program, len(word))
    check_count(times)
    return "".join(taken(word, moves_again(moves_by(len(word), program), times)))


def order_of(size, program):
    """The least number of times after which every word of so many letters is again what it was."""
    check_size(size)
    check_program(program, size)
    return times_to_return(moves_by(size, program))


def word_order(word, program):
    """The least number of times after which a word is again what it was."""
    check_word(word)
    check_program(program, len(word))
    many = 1
    for found in rounds_of(moves_by(len(word), program)):
        text = "".join(taken(word, found))
        # A round is again what it was as soon as its letters, read round, are.
        many = lcm(many, (text + text).find(text, 1))
    return many


def places_often(size, program, times):
    """The places that have to bear joints, so that a program can be done so many times."""
    check_size(size)
    check_program(program, size)
    check_count(times)
    places = []
    for found, gaps in _gaps_of_rounds(size, program):
        for spot, gap in gaps:
            reached = spot + min(gap, times)
            # Behind the end of a round comes its beginning.
            places.extend(found[spot:reached] + found[:max(0, reached - len(found))])
    return sorted(places)


def _gaps_of_rounds(size, program):
    """For each round of a program the tuple of it and of its gaps.

    A gap is told, for each spot in the round with a letter that jumps in the program, by this spot and by how many
    spots on the next one is; so often has the program to be done, so that all letters between the two jump.
    """
    moves, jumped = walked(size, program)
    jumps = {place: True for place in jumped}
    told = []
    for found in rounds_of(moves):
        spots = [spot for spot, place in enumerate(found) if place in jumps]
        nexts = spots[1:] + [spot + len(found) for spot in spots[:1]]
        told.append((found, [(spot, after - spot) for spot, after in zip(spots, nexts)]))
    return told


def ever_places(size, program):
    """The places that have to bear joints, so that a program can be done any number of times."""
    check_size(size)
    check_program(program, size)
    return sorted([place for found, gaps in _gaps_of_rounds(size, program) if gaps for place in found])


def times_needed(size, program):
    """The least number of times for which all places have to bear joints that have to for any number of times."""
    check_size(size)
    check_program(program, size)
    return max([gap for _, gaps in _gaps_of_rounds(size, program) for _, gap in gaps], default=0)
