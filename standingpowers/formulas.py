"""Formulas for an unknown that other unknowns determine (section 9 of the document)."""

from standingpowers.bases import with_values
from standingpowers.polynomials import is_polynomial
from standingpowers.shadows import numbers_at, places_of
from standingpowers.spaces import Space
from standingpowers.systems import solves
from standingpowers.tables import value_by_point


def formula(system, name, names):
    """The polynomial that gives an unknown by others, or two solutions for which there is none."""
    place = system.space.names.index(name)
    places = places_of(system.space, names)
    first_above = {}
    for solution in system.solutions():
        first = first_above.setdefault(numbers_at(solution, places), solution)
        if first[place] != solution[place]:
            return ("two", first, solution)
    values = [point[place] for point in first_above.values()]
    space = Space(system.space.prime, names)
    return ("formula", with_values(space, list(first_above), values, "degree"))


def judge_formula(system, name, names, answer):
    """Whether an answer about an unknown and others is right."""
    place = system.space.names.index(name)
    places = places_of(system.space, names)
    kind, *told = answer
    if kind == "formula":
        return gives(system, place, places, Space(system.space.prime, names), told[0])
    return kind == "two" and are_undetermined(system, place, places, told)


def gives(system, place, places, space, thing):
    """Whether a thing in the place of a polynomial gives the unknown at a place for each solution."""
    if not is_polynomial(space, thing):
        return False
    numbers = value_by_point(space, thing)
    return all([numbers[numbers_at(solution, places)] == solution[place] for solution in system.solutions()])


def are_undetermined(system, place, places, things):
    """Whether two things in the place of points are solutions that differ at a place, but not at some others."""
    if not all([solves(system, thing) for thing in things]):
        return False
    first, second = things
    return first[place] != second[place] and numbers_at(first, places) == numbers_at(second, places)
