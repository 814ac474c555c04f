"""What follows from a system, with reasons (section 7 of the document)."""

from standingpowers.polynomials import value
from standingpowers.systems import factors, shows, solves
from standingpowers.tables import value_by_point


def follows(system, one):
    """Factors that show that a polynomial follows from the system, or a solution at which it is not 0."""
    found = factors(system, one)
    if found is not None:
        return ("follows", found)
    numbers = value_by_point(system.space, one)
    return ("fails", [point for point in system.solutions() if numbers[point] != 0][0])


def judge_follows(system, one, answer):
    """Whether an answer about a polynomial and the system is right."""
    kind, told = answer
    if kind == "follows":
        return shows(system, one, told)
    return kind == "fails" and solves(system, told) and value(system.space, one, told) != 0
