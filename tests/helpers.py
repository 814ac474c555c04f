"""What several tests need: spaces, and answers reckoned straight from the document."""

import itertools
import random
import re

from standingpowers.polynomials import constant, minus, plus, times, unknown
from standingpowers.spaces import Space
from standingpowers.systems import System

NAMES = ["x", "y", "z", "u", "v", "w", "s", "t"]

# Each prime with each number of unknowns up to the greatest that it may have.
SIZES = [(2, count) for count in range(1, 9)] + [(3, count) for count in range(1, 6)]
SIZES += [(5, count) for count in range(1, 4)] + [(7, count) for count in range(1, 3)]

SMALL_SIZES = [(2, 1), (2, 2), (2, 3), (3, 1), (3, 2), (5, 1), (5, 2), (7, 1)]


def space_of(prime, count):
    return Space(prime, NAMES[:count])


def all_tuples(prime, count):
    return list(itertools.product(range(prime), repeat=count))


def plain_value(prime, polynomial, point):
    """The value of a polynomial by the words of points 1.3 and 2.2, with Python's own powers."""
    total = 0
    for power, number in polynomial:
        term = number
        for at, exponent in zip(point, power):
            term *= at ** exponent
        total += term
    return total % prime


def plain_table(prime, count, polynomial):
    return [plain_value(prime, polynomial, point) for point in all_tuples(prime, count)]


def well_formed(prime, count, thing):
    """Whether a thing is a polynomial by the words of point 2.1."""
    if not isinstance(thing, tuple):
        return False
    for pair in thing:
        if not isinstance(pair, tuple) or len(pair) != 2:
            return False
        power, number = pair
        if not isinstance(power, tuple) or len(power) != count:
            return False
        if any(type(exponent) is not int or not 0 <= exponent < prime for exponent in power):
            return False
        if type(number) is not int or not 1 <= number < prime:
            return False
    powers = [power for power, number in thing]
    return powers == sorted(set(powers), reverse=True)


def some_polynomials(prime, count, many, seed=1):
    """Always the same polynomials: 0, 1, thin ones and full ones."""
    chance = random.Random(seed * 1000 + prime * 10 + count)
    powers = all_tuples(prime, count)[::-1]
    found = [(), (((0,) * count, 1),), tuple((power, prime - 1) for power in powers)]
    while len(found) < many:
        share = chance.choice([0.1, 0.5, 0.9])
        found.append(tuple((power, chance.randrange(1, prime)) for power in powers if chance.random() < share))
    return found


def every_polynomial(prime, count):
    powers = all_tuples(prime, count)[::-1]
    for numbers in itertools.product(range(prime), repeat=len(powers)):
        yield tuple((power, number) for power, number in zip(powers, numbers) if number)


def plain_solutions(system):
    """The solutions by the words of point 4.1."""
    space = system.space
    return [point for point in all_tuples(space.prime, space.count)
            if all(plain_value(space.prime, one, point) == 0 for one in system.equations)]


def sum_of_products(space, firsts, seconds):
    total = ()
    for first, second in zip(firsts, seconds):
        total = plus(space, total, times(space, first, second))
    return total


def some_systems(prime, count):
    """Always the same systems: without equations, without solutions, and others."""
    space = space_of(prime, count)
    chance = random.Random(prime * 10 + count)
    found = [System(space, []), System(space, [()]), System(space, [constant(space, 1)]),
             System(space, [(), unknown(space, 0), ()]),
             System(space, [unknown(space, 0), minus(space, unknown(space, 0), constant(space, 1))])]
    polynomials = some_polynomials(prime, count, 12, 7)
    for many in (1, 2, 3, 5):
        found.append(System(space, chance.sample(polynomials[3:], many)))
    # Equations that are 0 at one point at least.
    point = tuple(chance.randrange(prime) for _ in range(count))
    shifted = [minus(space, one, constant(space, plain_value(prime, one, point))) for one in polynomials[3:]]
    for many in (1, 2, 4):
        found.append(System(space, chance.sample(shifted, many)))
    return found


def wrong_forms(space, one):
    """Tuples of pairs that are no polynomials of the space, though most would have the values of a polynomial."""
    prime, count = space.prime, space.count
    powers = [power for power, number in one]
    missing = [power for power in all_tuples(prime, count) if power not in powers]
    found = []
    for power in missing[:1] + missing[-1:]:
        others = [((power, number),) for number in (0, prime, -prime, 2 * prime)] + [((power, 1),) * prime]
        found += [tuple(sorted(one + pairs, reverse=True)) for pairs in others]
    unit, greater = ((exponent,) + (0,) * (count - 1) for exponent in (1, prime))
    if unit in missing:
        found.append(tuple(sorted(one + ((greater, 1), (unit, prime - 1)), reverse=True)))
    if len(one) > 1:
        found.append(one[::-1])
    if one:
        found.append(tuple((power + (0,), number) for power, number in one))
        found.append(tuple((power[:-1], number) for power, number in one))
    for at, (power, number) in enumerate(one):
        found += [one[:at] + others + one[at + 1:] for others in wrong_pairs(prime, power, number)]
    return found


def wrong_pairs(prime, power, number):
    """What a pair of a polynomial may be replaced by, so that it is none any more."""
    found = [((power, number - prime),), ((power, number + prime),), ((power, 1),) * (number + prime),
             ((power + (0,), number),), (((0,) + power, number),), ((power[:-1], number),), ((power[1:], number),)]
    for index, exponent in enumerate(power):
        if exponent > 0:
            greater = power[:index] + (exponent + prime - 1,) + power[index + 1:]
            lower = power[:index] + (exponent - prime,) + power[index + 1:]
            found += [((greater, number),), ((lower, number),)]
    return found


def wrong_points(prime, point):
    """Tuples of integers that are no points of the space of a point, though some look like it."""
    found = [(), point + (0,), (0,) + point, point[:-1], point[1:], point + point]
    for index, number in enumerate(point):
        for other in (number + prime, number - prime, prime, -1, 10 ** 9 * prime + number):
            found.append(point[:index] + (other,) + point[index + 1:])
    return found


def wrong_lengths(lists, many):
    """A list of lists of factors with a list or a factor too many or too few; each list has so many factors."""
    found = [lists + [[()] * many], [[()] * many] + lists, lists + [[]], lists + lists + [[()] * many]]
    if lists:
        found += [lists[1:], lists[:-1], []]
    for at, chosen in enumerate(lists):
        for others in (chosen + [()], [()] + chosen, chosen[:-1] if chosen else [()]):
            found.append(lists[:at] + [others] + lists[at + 1:])
    return found


def wrong_factors(space, lists):
    """A list of lists of factors of which one is no polynomial."""
    for at, chosen in enumerate(lists[:2]):
        for index, factor in enumerate(chosen[:2]):
            for wrong in wrong_forms(space, factor):
                others = chosen[:index] + [wrong] + chosen[index + 1:]
                yield lists[:at] + [others] + lists[at + 1:]


def some_sentence(chance, space, depth, polynomials=None):
    """A sentence by chance that is at most so deep."""
    polynomials = polynomials or some_polynomials(space.prime, space.count, 6, 2)
    kind = chance.choice(["=", "/=", "not", "and", "or", "=>"]) if depth > 1 else chance.choice(["=", "/="])
    if kind in ("=", "/="):
        return (kind, chance.choice(polynomials), chance.choice(polynomials))
    many = 1 if kind == "not" else 2
    return (kind, *(some_sentence(chance, space, depth - 1, polynomials) for _ in range(many)))


def changed_text(chance, text, signs, words):
    """A text of lines of words with one or two changes: a sign, a word or a line more, less or elsewhere."""
    for _ in range(chance.randrange(1, 3)):
        kind = chance.randrange(5)
        at = chance.randrange(len(text) + 1)
        if kind == 0:
            text = text[:at] + text[at + 1:]
        elif kind == 1:
            text = text[:at] + chance.choice(signs) + text[at:]
        elif kind == 2:
            parts = re.split(r"([ \n])", text)
            parts[chance.randrange(0, len(parts), 2)] = chance.choice(words)
            text = "".join(parts)
        else:
            lines = text.split("\n")
            first, second = chance.randrange(len(lines)), chance.randrange(len(lines))
            if kind == 3:
                lines[first], lines[second] = lines[second], lines[first]
            else:
                lines.insert(first, lines[second])
            text = "\n".join(lines)
    return text
