"""Systems of equations, their solutions, and factors that show what follows (section 4 of the document)."""

from standingpowers.polynomials import are_polynomials, value
from standingpowers.spaces import inverse
from standingpowers.tables import polynomial_of, table_of


class System:
    """A space and polynomials of it, each of which is to be 0."""

    def __init__(self, space, equations):
        self.space = space
        self.equations = list(equations)
        # Equations never change, so their tables are reckoned once. They are
        # tuples, so that they can be handed out without a copy.
        self._tables = tuple([tuple(table_of(space, equation)) for equation in equations])

    def is_solution(self, point):
        """Whether all equations are 0 at a point."""
        return all([value(self.space, equation, point) == 0 for equation in self.equations])

    def solutions(self):
        """The points at which all equations are 0, ascending."""
        points = self.space.points()
        return [point for at, point in enumerate(points) if first_that_fails(self._tables, at) is None]

    def tables(self):
        """The tables of the equations, as tuples."""
        return self._tables


def factors(system, one):
    """Factors that show that a polynomial follows from the system, or None if it does not follow."""
    prime = system.space.prime
    tables = system.tables()
    wanted = table_of(system.space, one)
    values_by_index = {}
    for at, number in enumerate(wanted):
        if number != 0:
            index = first_that_fails(tables, at)
            if index is None:
                return None
            # This equation alone makes the number here; all other factors stay 0 at the point.
            values = values_by_index.setdefault(index, [0] * len(wanted))
            values[at] = number * inverse(prime, tables[index][at]) % prime
    found = [()] * len(tables)
    for index, values in values_by_index.items():
        found[index] = polynomial_of(system.space, values)
    return found


def shown(system, one, factors):
    """Whether the polynomial is the sum of the factors times the equations, one factor for each."""
    if len(factors) != len(system.equations):
        return False
    wanted = table_of(system.space, one)
    total = [0] * len(wanted)
    for factor, table in zip(factors, system.tables()):
        # Long lists of factors are mostly 0, which need not be reckoned.
        if factor != ():
            values = table_of(system.space, factor)
            total = [number + first * second for number, first, second in zip(total, values, table)]
    return [number % system.space.prime for number in total] == wanted


def shows(system, one, things):
    """Whether things in the place of factors are polynomials of the space that show the polynomial."""
    if len(things) != len(system.equations) or not are_polynomials(system.space, things):
        return False
    return shown(system, one, things)


def solves(system, thing):
    """Whether a thing in the place of a point is a point of the space and a solution."""
    return system.space.is_point(thing) and system.is_solution(thing)


def first_that_fails(tables, at):
    """The index of the first table that is not 0 at a place, None if there is none."""
    for index, table in enumerate(tables):
        if table[at] != 0:
            return index
    return None
