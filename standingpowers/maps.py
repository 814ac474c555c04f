"""Maps from one space to another: images, origins, ways back (section 11 of the document)."""

from standingpowers.bases import Elimination
from standingpowers.polynomials import are_polynomials, replaced, value
from standingpowers.systems import System, solves
from standingpowers.tables import table_of


def led(first, polynomials, point):
    """The point to which a map leads a point of the first space."""
    return tuple([value(first, polynomial, point) for polynomial in polynomials])


def led_by_point(first, polynomials):
    """A dict with the point to which a map leads, for each point of the first space."""
    columns = [table_of(first, polynomial) for polynomial in polynomials]
    targets = list(zip(*columns))
    return {point: target for point, target in zip(first.points(), targets)}


def image(system, second, polynomials):
    """The points of the second space to which a map leads solutions, ascending."""
    target_by_point = led_by_point(system.space, polynomials)
    return sorted({target_by_point[solution] for solution in system.solutions()})


def origin(first, polynomials, system):
    """The system of the first space whose solutions a map leads to solutions."""
    return System(first, [replaced(system.space, equation, first, polynomials) for equation in system.equations])


def way_back(system, second, polynomials):
    """The map that leads the image back to the solutions, or two solutions that are led to one point."""
    target_by_point = led_by_point(system.space, polynomials)
    solution_by_target = {}
    for solution in system.solutions():
        target = target_by_point[solution]
        if target in solution_by_target:
            return ("two", solution_by_target[target], solution)
        solution_by_target[target] = solution
    elimination = Elimination(second, list(solution_by_target), "degree")
    backs = []
    for place in range(system.space.count):
        numbers = [point[place] for point in solution_by_target.values()]
        backs.append(elimination.with_values(numbers))
    return ("back", backs)


def judge_back(system, second, polynomials, answer):
    """Whether an answer about a way back is right."""
    kind, *told = answer
    if kind == "back":
        return leads_back(system, second, polynomials, told[0])
    return kind == "two" and are_led_to_one(system, polynomials, told)


def leads_back(system, second, polynomials, things):
    """Whether things in the place of polynomials lead each point of the image to its solution."""
    if len(things) != system.space.count or not are_polynomials(second, things):
        return False
    there = led_by_point(system.space, polynomials)
    back = led_by_point(second, things)
    return all([back[there[solution]] == solution for solution in system.solutions()])


def are_led_to_one(system, polynomials, things):
    """Whether two things in the place of points are different solutions that a map leads to one point."""
    if not all([solves(system, thing) for thing in things]):
        return False
    one, other = things
    return one != other and led(system.space, polynomials, one) == led(system.space, polynomials, other)
