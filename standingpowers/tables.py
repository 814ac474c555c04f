"""Tables: the values of polynomials at all points of a space (point 2.3 of the document).

Both ways, to the table and back, are taken along one unknown after the other.
This is far quicker than to reckon each value by itself.
"""

from standingpowers.spaces import number_raised


def table_of(space, one):
    """The list of the values of a polynomial at the points in order."""
    number_by_power = {power: number for power, number in one}
    numbers = [number_by_power.get(power, 0) for power in space.powers("lex")]
    return turned(space, value_rows(space.prime), numbers)


def polynomial_of(space, table):
    """The only polynomial with this list of values at the points in order."""
    numbers = turned(space, number_rows(space.prime), table)
    pairs = [(power, number) for power, number in zip(space.powers("lex"), numbers) if number != 0]
    return tuple(pairs[::-1])


def value_by_point(space, one):
    """A dict with the value of a polynomial for each point."""
    return {point: number for point, number in zip(space.points(), table_of(space, one))}


def value_rows(prime):
    """For each number a row with the values of its powers, from exponent 0 on."""
    return [[number_raised(prime, number, exponent) for exponent in range(prime)] for number in range(prime)]


def number_rows(prime):
    """For each exponent the row of weights with which the values give its number."""
    # The powers of all numbers with one exponent add up to -1 if this is a
    # multiple of prime - 1 above 0, and to 0 if not. So, if each value is
    # multiplied by the number to the power prime - 1 - exponent, the sum is
    # the negative of what is sought. The number of exponent 0 is the value at 0.
    rows = [[1] + [0] * (prime - 1)]
    for exponent in range(1, prime):
        rows.append([-number_raised(prime, number, prime - 1 - exponent) % prime for number in range(prime)])
    return rows


def turned(space, rows, numbers):
    """The numbers of the whole space combined by the rows along each unknown."""
    for _ in range(space.count):
        numbers = turned_once(space.prime, rows, numbers)
    return numbers


def turned_once(prime, rows, numbers):
    """The numbers combined along the last unknown, which is the first one afterwards."""
    parts = [numbers[start::prime] for start in range(prime)]
    combined = []
    for row in rows:
        combined.extend(weighted_sum(prime, row, parts))
    return combined


def weighted_sum(prime, weights, parts):
    """The sum of equally long lists of numbers, each times its weight."""
    total = [0] * len(parts[0])
    for weight, part in zip(weights, parts):
        if weight != 0:
            total = [number + weight * other for number, other in zip(total, part)]
    return [number % prime for number in total]
