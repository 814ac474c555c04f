"""Sets of points, given by systems: joined, taken apart, compared (section 10 of the document)."""

from standingpowers.systems import System, factors, shows
from standingpowers.tables import polynomial_of


def mark(system):
    """The polynomial that is 0 at the solutions and 1 at all other points."""
    return polynomial_of(system.space, mark_table(system))


def both(one, other):
    """A system with the solutions that two systems share."""
    table = [max(first, second) for first, second in zip(mark_table(one), mark_table(other))]
    return marked(one.space, table)


def either(one, other):
    """A system with the solutions of two systems."""
    table = [min(first, second) for first, second in zip(mark_table(one), mark_table(other))]
    return marked(one.space, table)


def without(one, other):
    """A system with the solutions of the first system that are none of the other one."""
    return both(one, opposite(other))


def opposite(one):
    """A system with the points that are no solutions as its solutions."""
    return marked(one.space, [1 - number for number in mark_table(one)])


def mark_table(system):
    """For each point in order 0 if it is a solution, and 1 if it is none."""
    known = {solution: True for solution in system.solutions()}
    return [0 if point in known else 1 for point in system.space.points()]


def marked(space, table):
    """A system of one equation that has these values at the points in order."""
    return System(space, [polynomial_of(space, table)])


def compare(one, other):
    """Factors that show that two systems have the same solutions, or a point that is one of only one."""
    for point, first, second in zip(one.space.points(), mark_table(one), mark_table(other)):
        if first != second:
            return ("unlike", point)
    there = [factors(one, equation) for equation in other.equations]
    back = [factors(other, equation) for equation in one.equations]
    return ("same", there, back)


def judge_compare(one, other, answer):
    """Whether an answer about two systems is right."""
    kind, *told = answer
    if kind == "same":
        there, back = told
        return show_all(one, other.equations, there) and show_all(other, one.equations, back)
    return kind == "unlike" and is_solution_of_one(one, other, told[0])


def show_all(system, polynomials, lists):
    """Whether there is a list of factors for each polynomial that shows that it follows."""
    if len(lists) != len(polynomials):
        return False
    return all([shows(system, polynomial, things) for polynomial, things in zip(polynomials, lists)])


def is_solution_of_one(one, other, thing):
    """Whether a thing in the place of a point is a solution of just one of two systems."""
    return one.space.is_point(thing) and one.is_solution(thing) != other.is_solution(thing)
