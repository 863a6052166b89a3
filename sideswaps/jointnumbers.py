"""Number lists: deeds told by the numbers of joints, counted from the front of a word."""

from math import gcd, lcm

from sideswaps.classes import LETTERS
from sideswaps.errors import InvalidRoad
from sideswaps.placings import check_program, check_size, moves_again, moves_by, taken, times_to_return
from sideswaps.programs import last_parted
from sideswaps.words import check_count, check_joints, check_word, is_count


def _joints_in(word, joints):
    """The joints of a word, one behind the other, as a string."""
    return "".join([letter for letter in word if letter in joints])


def _check_numbers(word, joints, numbers):
    """Refuse what is no word, then what are no joints, then what is no number list for the joints of the word."""
    check_word(word)
    check_joints(joints)
    check_program(numbers, len(_joints_in(word, joints)))


def _turned_by(count, numbers):
    """By how many pieces a number list for so many joints turns the pieces between and beside them."""
    return (sum(numbers) + len(numbers)) % (count + 1)


def done_by_numbers(word, joints, numbers):
    """The word that a number list makes of a word."""
    return done_by_numbers_often(word, joints, numbers, 1)


def done_by_numbers_often(word, joints, numbers, times):
    """The word that so many times a number list make of a word."""
    _check_numbers(word, joints, numbers)
    check_count(times)
    kept = _joints_in(word, joints)
    pieces = _pieces_of(word, joints)
    turned = _turned_by(len(kept), numbers) * times % len(pieces)
    made = taken(kept, moves_again(moves_by(len(kept), numbers), times)) + [""]
    return "".join([piece + joint for piece, joint in zip(pieces[turned:] + pieces[:turned], made)])


def _pieces_of(word, joints):
    """The pieces of a word between and beside its joints."""
    pieces, start = [], 0
    for place, letter in enumerate(word):
        if letter in joints:
            pieces.append(word[start:place])
            start = place + 1
    return pieces + [word[start:]]


def _stars_of(word, joints):
    """The cells of the joints of a word and of its hole, ascending."""
    return [cell for cell, letter in enumerate(word) if letter in joints] + [len(word)]


def numbers_of(word, joints, road):
    """The number list of the joints at which the deeds of a road are done."""
    check_word(word)
    check_joints(joints)
    if not isinstance(road, list):
        raise InvalidRoad(road)
    stars = _stars_of(word, joints)
    number_at = {cell: number for number, cell in enumerate(stars)}
    hole = len(word)
    numbers = []
    for place in road:
        if not is_count(place) or place >= len(word):
            raise InvalidRoad(road)
        cell = (hole + place + 1) % (len(word) + 1)
        if cell not in number_at:
            raise InvalidRoad(road)
        numbers.append((number_at[cell] - number_at[hole] - 1) % len(stars))
        hole = cell
    return numbers


def road_of(word, joints, numbers):
    """The road that a number list is in a word."""
    _check_numbers(word, joints, numbers)
    stars = _stars_of(word, joints)
    hole = len(stars) - 1
    road = []
    for number in numbers:
        star = (hole + number + 1) % len(stars)
        road.append((stars[star] - stars[hole] - 1) % (len(word) + 1))
        hole = star
    return road


def numbers_parting(joints, count, one, other):
    """The first word with so many joints of which two number lists make unlike words, None if there is none."""
    check_joints(joints)
    check_size(count)
    check_program(one, count)
    check_program(other, count)
    if joints == "":
        return None
    spot = last_parted(moves_by(count, one), moves_by(count, other))
    if spot is not None and len(joints) > 1:
        return joints[0] * spot + joints[1] + joints[0] * (count - spot - 1)
    bodies = [letter for letter in LETTERS if letter not in joints]
    if _turned_by(count, one) == _turned_by(count, other) or not bodies:
        return None
    # Wherever the one body stands, the two lists bring it to unlike pieces.
    return min(bodies[0] + joints[0] * count, joints[0] * count + bodies[0])


def numbers_order(count, numbers):
    """The least number of times after which every word with so many joints is again what it was."""
    check_size(count)
    check_program(numbers, count)
    return lcm(times_to_return(moves_by(count, numbers)), (count + 1) // gcd(count + 1, _turned_by(count, numbers)))
