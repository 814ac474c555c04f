"""Lamps that are pressed, and colours of graphs (section 12 of the document)."""

from standingpowers.polynomials import constant, minus, plus, raised, unknown
from standingpowers.spaces import Space
from standingpowers.systems import System


def lamps(prime, neighbours, start, goal):
    """The system of how often each lamp is pressed on a way from the start to the goal."""
    space = numbered_space(prime, len(neighbours))
    equations = []
    for lamp in range(space.count):
        less = constant(space, (start[lamp] - goal[lamp]) % prime)
        equations.append(plus(space, presses_that_add(space, neighbours, lamp), less))
    return System(space, equations)


def least_way(prime, neighbours, start, goal):
    """A way from the start to the goal with the fewest presses, None if there is no way."""
    return min(lamps(prime, neighbours, start, goal).solutions(), key=sum, default=None)


def presses_that_add(space, neighbours, lamp):
    """The sum of the unknowns of the lamps whose pressing adds to a lamp."""
    total = ()
    for pressed in range(space.count):
        if pressed == lamp or lamp in neighbours[pressed]:
            total = plus(space, total, unknown(space, pressed))
    return total


def colourings(prime, count, edges):
    """The system of the colourings of a graph in which no edge joins nodes of one colour."""
    space = numbered_space(prime, count)
    return System(space, [edge_equation(space, first, second) for first, second in edges])


def edge_equation(space, first, second):
    """The polynomial that is 0 exactly where the colours of two nodes differ."""
    difference = minus(space, unknown(space, first), unknown(space, second))
    # By Fermat's little theorem this power is 1 unless the difference is 0.
    return minus(space, constant(space, 1), raised(space, difference, space.prime - 1))


def numbered_space(prime, count):
    """The space of so many unknowns x0, x1 and so on."""
    return Space(prime, [f"x{index}" for index in range(count)])
