"""Standing powers, division, and bases of sets of points (section 5 of the document)."""

from standingpowers.polynomials import gathered, leading, lessened, number_of
from standingpowers.spaces import degree_of, divides, inverse

# A line of an elimination is kept as one integer, in which each number has so
# many bits. So it takes one step to add a multiple of a whole line to another.
# A number is at most 6 + 256 * 6 * 6 before it is taken modulo the prime.
BITS = 16
MASK = 65535


def stand_over(space, polynomials, order):
    """The powers that no leading power of the polynomials divides, ascending in the order."""
    leaders = leading_powers(polynomials, order)
    return [power for power in space.powers(order) if first_divisor(leaders, power) is None]


def divided(space, one, polynomials, order):
    """The quotients of a polynomial by a list of polynomials, and the remainder."""
    leaders = leading_powers(polynomials, order)
    left = {power: number for power, number in one}
    quotients = [{} for _ in polynomials]
    # A step changes only powers below its own, so each power comes up once.
    for power in reversed(space.powers(order)):
        if left.get(power, 0) != 0:
            index = first_divisor(leaders, power)
            if index is not None:
                divisor = polynomials[index]
                leader = leaders[index]
                quotient = tuple([high - low for high, low in zip(power, leader)])
                number = left[power] * inverse(space.prime, number_of(divisor, leader)) % space.prime
                quotients[index][quotient] = number
                take_away(space, left, quotient, number, divisor)
    return [gathered(space, numbers) for numbers in quotients], gathered(space, left)


def remainder(space, one, polynomials, order):
    """What is left of a polynomial that is divided by a list of polynomials."""
    return divided(space, one, polynomials, order)[1]


def leading_powers(polynomials, order):
    """The leading power of each polynomial, None for 0."""
    return [None if one == () else leading(one, order) for one in polynomials]


def first_divisor(leaders, power):
    """The index of the first leading power that divides a power, None if there is none."""
    for index, leader in enumerate(leaders):
        if leader is not None and divides(leader, power):
            return index
    return None


def take_away(space, numbers, power, number, one):
    """Lessen a dict of the numbers of powers by a number times a power times a polynomial."""
    for own, factor in one:
        product = tuple([lessened(space.prime, low + high) for low, high in zip(own, power)])
        numbers[product] = (numbers.get(product, 0) - number * factor) % space.prime


def standing(space, points, order):
    """The standing powers for the points, ascending in the order."""
    return Elimination(space, points, order).standing_powers


def basis(space, points, order):
    """The basis of the points, its leading powers ascending in the order."""
    return Elimination(space, points, order).zeros


def with_values(space, points, values, order):
    """The polynomial of standing powers that has these values at the points."""
    return Elimination(space, points, order).with_values(values)


def separators(space, points, order):
    """For each point the polynomial of standing powers that is 1 there and 0 at the others."""
    elimination = Elimination(space, points, order)
    found = []
    for at in range(len(points)):
        values = [0] * len(points)
        values[at] = 1
        found.append(elimination.with_values(values))
    return found


def growth(space, points):
    """The numbers of standing powers of each degree, from 0 to the greatest one of the space."""
    counts = [0] * (space.count * (space.prime - 1) + 1)
    for power in standing(space, points, "degree"):
        counts[degree_of(power)] += 1
    return counts


class Elimination:
    """The standing powers of some points, found by elimination, and the polynomials of the basis.

    A line stands for a polynomial: it has its values at the points, and behind
    these its numbers of the standing powers and of the power that is tried.
    For each standing power a line is kept that is 1 at one point, its pivot,
    and 0 at the pivots of the lines before it.
    """

    def __init__(self, space, points, order):
        self.space = space
        self.many = len(points)
        self.columns = [[point[index] for point in points] for index in range(space.count)]
        self.standing_powers = []
        self.zeros = []
        self.lines = []
        self.pivots = []
        values_by_power = {}
        leaders = []
        for power in space.powers(order):
            # A power that another one divides which is not standing is not standing either.
            if first_divisor(leaders, power) is None:
                values = self.values_of(power, values_by_power)
                values_by_power[power] = values
                if not self.takes_in(power, values):
                    leaders.append(power)

    def values_of(self, power, values_by_power):
        """The values of a power at the points, by those of a power with one factor less."""
        for index, exponent in enumerate(power):
            if exponent > 0:
                lower = power[:index] + (exponent - 1,) + power[index + 1:]
                column = self.columns[index]
                return [number * other % self.space.prime for number, other in zip(values_by_power[lower], column)]
        return [1] * self.many

    def takes_in(self, power, values):
        """Take in the next power, which has these values at the points: whether it is standing."""
        numbers = [0] * (self.many + 1)
        numbers[len(self.standing_powers)] = 1
        line = self.cleared(values + numbers)
        for pivot in range(self.many):
            if line[pivot] != 0:
                factor = inverse(self.space.prime, line[pivot])
                self.lines.append(packed([number * factor % self.space.prime for number in line]))
                self.pivots.append(pivot)
                self.standing_powers.append(power)
                return True
        # The line is 0 at all points, and its powers below this one are standing.
        self.zeros.append(self.polynomial(line, self.standing_powers + [power]))
        return False

    def with_values(self, values):
        """The polynomial of standing powers that has these values at the points."""
        # What clears the line, and is its negative, has these values.
        line = self.cleared([number % self.space.prime for number in values] + [0] * self.many)
        return self.polynomial([-number for number in line], self.standing_powers)

    def cleared(self, line):
        """The line less multiples of the kept lines, so that it is 0 at all pivots."""
        prime = self.space.prime
        left = packed(line)
        for pivot, kept in zip(self.pivots, self.lines):
            number = number_at(left, pivot) % prime
            if number != 0:
                left = left + (prime - number) * kept
        return [number_at(left, at) % prime for at in range(len(line))]

    def polynomial(self, line, powers):
        """The polynomial of a line, with the powers of its numbers."""
        return gathered(self.space, {power: number for power, number in zip(powers, line[self.many:])})


def packed(line):
    """The integer as which a line is kept."""
    kept = 0
    for number in reversed(line):
        kept = (kept << BITS) + number
    return kept


def number_at(kept, at):
    """The number at a place of a line that is kept as an integer."""
    return kept >> (BITS * at) & MASK
