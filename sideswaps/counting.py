"""Numbers of orders, shares and rings, by sums, without any word being made."""

from math import comb, factorial, gcd


def orders_of(counts):
    """How many orders there are of things, so many of each kind, that are alike within a kind."""
    many = factorial(sum(counts))
    for count in counts:
        many //= factorial(count)
    return many


def divisors_of(number):
    """The numbers that divide a number above 0, ascending."""
    return [each for each in range(1, number + 1) if number % each == 0]


def coprimes_of(number):
    """How many of the numbers from 1 to a number have no divisor with it in common but 1."""
    return len([each for each in range(1, number + 1) if gcd(each, number) == 1])


def ways_to_share(many, kinds):
    """In how many ways so many letters can be shared among so many kinds."""
    if kinds == 0:
        return 1 if many == 0 else 0
    return comb(many + kinds - 1, many)


def power(base, times):
    """A number so many times by itself."""
    many = 1
    for _ in range(times):
        many *= base
    return many


def _texts_not_repeated(cells, stars, bodies):
    """How many texts with so many stars, all else of so many bodies, are no shorter text several times over."""
    many = comb(cells, stars) * power(bodies, cells - stars)
    for times in divisors_of(gcd(cells, stars))[1:]:
        many -= _texts_not_repeated(cells // times, stars // times, bodies)
    return many


def rings_by_turns(cells, stars, bodies):
    """Tuples of in how many ways a ring can be turned so that it is the same, and how many such rings there are.

    The rings have so many cells, so many of them stars, at least one, and all else of so many bodies; those that
    turnings lead to one another are one.
    """
    found = []
    for turns in divisors_of(gcd(cells, stars)):
        period = cells // turns
        found.append((turns, _texts_not_repeated(period, stars // turns, bodies) // period))
    return found
