"""Numbers, names, points and powers (section 1 of the document)."""

from standingpowers.errors import InvalidSpace

PRIMES = (2, 3, 5, 7)
ORDERS = ("lex", "degree")
LETTERS = "abcdefghijklmnopqrstuvwxyz"
LETTERS_AND_DIGITS = "abcdefghijklmnopqrstuvwxyz0123456789"
LONGEST_NAME = 12
MOST_UNKNOWNS = 8
MOST_POINTS = 256


def number_raised(prime, number, exponent):
    """The product modulo the prime of so many factors, 1 if there are none."""
    product = 1
    for _ in range(exponent):
        product = product * number % prime
    return product


def inverse(prime, number):
    """The number whose product with a number other than 0 is 1."""
    # By Fermat's little theorem, prime - 1 equal factors other than 0 give 1.
    return number_raised(prime, number, prime - 2)


def is_name(text):
    """Whether a string is a name of an unknown."""
    if not 1 <= len(text) <= LONGEST_NAME or text[0] not in LETTERS:
        return False
    return all([sign in LETTERS_AND_DIGITS for sign in text])


def make_a_space(prime, names):
    """Whether an integer and a list of strings are the prime and the names of a space."""
    if prime not in PRIMES or not 1 <= len(names) <= MOST_UNKNOWNS:
        return False
    if len(set(names)) < len(names) or not all([is_name(name) for name in names]):
        return False
    many = 1
    for _ in names:
        many = many * prime
    return many <= MOST_POINTS


def tuples_in_order(prime, count):
    """All tuples of so many integers from 0 to prime - 1, in ascending order."""
    tuples = [()]
    for _ in range(count):
        tuples = [start + (number,) for start in tuples for number in range(prime)]
    return tuples


class Space:
    """A prime and the names of some unknowns."""

    def __init__(self, prime, names):
        if not make_a_space(prime, names):
            raise InvalidSpace("the prime and the names make no space")
        self.prime = prime
        self.names = list(names)
        self.count = len(names)
        # The exponents of a power have the same limits as the numbers of a
        # point, so these tuples are the points and also the powers.
        self._tuples = tuples_in_order(prime, len(names))

    def points(self):
        """All points, ascending."""
        return list(self._tuples)

    def powers(self, order):
        """All powers, ascending in the order."""
        if order == "lex":
            return list(self._tuples)
        # Sorting keeps the order as tuples among powers of one degree.
        return sorted(self._tuples, key=degree_of)

    def is_point(self, thing):
        """Whether a tuple of integers is a point."""
        return len(thing) == self.count and all([0 <= number < self.prime for number in thing])

    def zero(self):
        """The power with all exponents 0."""
        return (0,) * self.count


def degree_of(power):
    """The sum of the exponents."""
    return sum(power)


def divides(one, other):
    """Whether no exponent of the first power is greater than that of the other one."""
    return all([exponent <= limit for exponent, limit in zip(one, other)])


def is_less(order, one, other):
    """Whether the first power is less than the other one in the order."""
    if order == "lex" or degree_of(one) == degree_of(other):
        return one < other
    return degree_of(one) < degree_of(other)


def value_of(space, power, point):
    """The value of a power at a point."""
    product = 1
    for number, exponent in zip(point, power):
        product = product * number_raised(space.prime, number, exponent) % space.prime
    return product
