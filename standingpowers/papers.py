"""Papers, each of which proves all that follows from a system (section 6 of the document)."""

from standingpowers.bases import basis, stand_over
from standingpowers.polynomials import is_polynomial
from standingpowers.spaces import ORDERS
from standingpowers.systems import factors, shows


class Paper:
    """An order, rows of a polynomial and its factors, and points."""

    def __init__(self, order, rows, points):
        self.order = order
        self.rows = [(polynomial, list(its_factors)) for polynomial, its_factors in rows]
        self.points = list(points)


def paper_of(system, order):
    """The paper of a system in an order."""
    points = system.solutions()
    rows = [(one, factors(system, one)) for one in basis(system.space, points, order)]
    return Paper(order, rows, points)


def accepts(system, paper):
    """Whether the paper proves for the system what a paper is to prove."""
    if paper.order not in ORDERS:
        return False
    if not are_different_solutions(system, paper.points):
        return False
    if not all([row_holds(system, polynomial, its_factors) for polynomial, its_factors in paper.rows]):
        return False
    polynomials = [polynomial for polynomial, its_factors in paper.rows]
    return len(paper.points) == len(stand_over(system.space, polynomials, paper.order))


def are_different_solutions(system, things):
    """Whether things in the place of points are solutions, no two of them equal."""
    solutions = system.solutions()
    return len(set(things)) == len(things) and all([thing in solutions for thing in things])


def row_holds(system, thing, its_factors):
    """Whether a thing in the place of a polynomial is one, not 0, and its factors show that it follows."""
    return thing != () and is_polynomial(system.space, thing) and shows(system, thing, its_factors)
