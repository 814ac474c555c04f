"""What several tests need: spaces, and answers reckoned straight from the document."""

import itertools
import random

from standingpowers.spaces import Space

NAMES = ["x", "y", "z", "u", "v", "w", "s", "t"]

# Each prime with each number of unknowns up to the greatest that it may have.
SIZES = [(2, count) for count in range(1, 9)] + [(3, count) for count in range(1, 6)]
SIZES += [(5, count) for count in range(1, 4)] + [(7, count) for count in range(1, 3)]

SMALL_SIZES = [(2, 1), (2, 2), (2, 3), (3, 1), (3, 2), (5, 1), (5, 2), (7, 1)]


def space_of(prime, count):
    return Space(prime, NAMES[:count])


def all_tuples(prime, count):
    return list(itertools.product(range(prime), repeat=count))


def plain_value(prime, polynomial, point):
    """The value of a polynomial by the words of points 1.3 and 2.2, with Python's own powers."""
    total = 0
    for power, number in polynomial:
        term = number
        for at, exponent in zip(point, power):
            term *= at ** exponent
        total += term
    return total % prime


def plain_table(prime, count, polynomial):
    return [plain_value(prime, polynomial, point) for point in all_tuples(prime, count)]


def well_formed(prime, count, thing):
    """Whether a thing is a polynomial by the words of point 2.1."""
    if not isinstance(thing, tuple):
        return False
    for pair in thing:
        if not isinstance(pair, tuple) or len(pair) != 2:
            return False
        power, number = pair
        if not isinstance(power, tuple) or len(power) != count:
            return False
        if any(type(exponent) is not int or not 0 <= exponent < prime for exponent in power):
            return False
        if type(number) is not int or not 1 <= number < prime:
            return False
    powers = [power for power, number in thing]
    return powers == sorted(set(powers), reverse=True)


def some_polynomials(prime, count, many, seed=1):
    """Always the same polynomials: 0, 1, thin ones and full ones."""
    chance = random.Random(seed * 1000 + prime * 10 + count)
    powers = all_tuples(prime, count)[::-1]
    found = [(), (((0,) * count, 1),), tuple((power, prime - 1) for power in powers)]
    while len(found) < many:
        share = chance.choice([0.1, 0.5, 0.9])
        found.append(tuple((power, chance.randrange(1, prime)) for power in powers if chance.random() < share))
    return found


def every_polynomial(prime, count):
    powers = all_tuples(prime, count)[::-1]
    for numbers in itertools.product(range(prime), repeat=len(powers)):
        yield tuple((power, number) for power, number in zip(powers, numbers) if number)
