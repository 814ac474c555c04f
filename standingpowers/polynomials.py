"""Polynomials: sums, products, values, replacing (section 2 of the document)."""

from standingpowers.spaces import degree_of, value_of
from standingpowers.tables import polynomial_of, table_of, value_by_point

# From so many pairs for each point on, multiplying pair by pair takes longer
# than multiplying the values at all points.
PAIRS_FOR_A_POINT = 3


def is_polynomial(space, thing):
    """Whether a tuple of pairs is a polynomial of the space."""
    for power, number in thing:
        # The exponents of a power have the same limits as the numbers of a point.
        if not space.is_point(power) or not 0 < number < space.prime:
            return False
    powers = [pair[0] for pair in thing]
    return all([powers[at - 1] > powers[at] for at in range(1, len(powers))])


def are_polynomials(space, things):
    """Whether all things of a list are polynomials of the space."""
    return all([is_polynomial(space, thing) for thing in things])


def constant(space, number):
    """The polynomial of a number, which is taken modulo the prime."""
    return gathered(space, {space.zero(): number})


def unknown(space, index):
    """The polynomial of the unknown with an index."""
    exponents = [0] * space.count
    exponents[index] = 1
    return ((tuple(exponents), 1),)


def plus(space, one, other):
    """The sum of two polynomials."""
    totals = {power: number for power, number in one}
    for power, number in other:
        totals[power] = totals.get(power, 0) + number
    return gathered(space, totals)


def minus(space, one, other):
    """The difference of two polynomials."""
    return plus(space, one, scaled(space, other, space.prime - 1))


def scaled(space, one, number):
    """The product of a polynomial and a number, which is taken modulo the prime."""
    return gathered(space, {power: number * own for power, own in one})


def times(space, one, other):
    """The product of two polynomials."""
    if len(one) * len(other) <= PAIRS_FOR_A_POINT * len(space.points()):
        return multiplied_by_pairs(space, one, other)
    # The values tell which polynomial it is, and those of a product are products.
    firsts = table_of(space, one)
    seconds = table_of(space, other)
    return polynomial_of(space, [first * second for first, second in zip(firsts, seconds)])


def raised(space, one, exponent):
    """The product of so many factors that are the polynomial, 1 if there are none."""
    product = constant(space, 1)
    for _ in range(lessened(space.prime, exponent)):
        product = times(space, product, one)
    return product


def value(space, one, point):
    """The value of a polynomial at a point."""
    return sum([number * value_of(space, power, point) for power, number in one]) % space.prime


def degree(one):
    """The greatest degree of the powers, -1 if there are none."""
    return max([degree_of(power) for power, number in one], default=-1)


def leading(one, order):
    """The greatest power in the order, of a polynomial other than 0."""
    powers = [power for power, number in one]
    if order == "lex":
        return powers[0]
    # Of several greatest ones max gives the first, and the powers descend as tuples.
    return max(powers, key=degree_of)


def number_of(one, power):
    """The number of a power in a polynomial, 0 if the polynomial has not the power."""
    for own, number in one:
        if own == power:
            return number
    return 0


def speaks_of(space, one):
    """The indexes of the unknowns of which a polynomial speaks, ascending."""
    return [index for index in range(space.count) if any([power[index] > 0 for power, number in one])]


def replaced(first, one, second, polynomials):
    """The polynomial with the unknowns of the first space replaced by polynomials of the second."""
    numbers = value_by_point(first, one)
    columns = [table_of(second, polynomial) for polynomial in polynomials]
    return polynomial_of(second, [numbers[point] for point in zip(*columns)])


def gathered(space, totals):
    """The polynomial with the numbers that a dict has for powers, taken modulo the prime."""
    numbers = [(power, totals[power] % space.prime) for power in sorted(totals, reverse=True)]
    return tuple([pair for pair in numbers if pair[1] != 0])


def lessened(prime, exponent):
    """The least exponent, above 0 if the given one is, with the same values at all numbers."""
    if exponent == 0:
        return 0
    return (exponent - 1) % (prime - 1) + 1


def multiplied_by_pairs(space, one, other):
    """The product of two polynomials, reckoned pair by pair."""
    totals = {}
    for power, number in one:
        for second, factor in other:
            sums = [lessened(space.prime, low + high) for low, high in zip(power, second)]
            product = tuple(sums)
            totals[product] = totals.get(product, 0) + number * factor
    return gathered(space, totals)
