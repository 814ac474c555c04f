"""Shadows: what a system says about some of its unknowns alone (section 8 of the document)."""

from standingpowers.polynomials import speaks_of


def shadow(system, names):
    """The points that solutions have as their numbers for a list of unknowns, ascending."""
    places = places_of(system.space, names)
    return sorted({numbers_at(solution, places) for solution in system.solutions()})


def lift(system, names, point):
    """A solution with these numbers for a list of unknowns, None if there is none."""
    places = places_of(system.space, names)
    for solution in system.solutions():
        if numbers_at(solution, places) == point:
            return solution
    return None


def shadow_basis(space, polynomials, k):
    """The polynomials that speak of none of the first k unknowns, as polynomials of the others."""
    return [without_first(one, k) for one in polynomials if speaks_from(space, one, k)]


def places_of(space, names):
    """The indexes of a list of unknowns."""
    return [space.names.index(name) for name in names]


def numbers_at(point, places):
    """The point that is made of the numbers of a point at some places."""
    return tuple([point[place] for place in places])


def speaks_from(space, one, k):
    """Whether a polynomial speaks of none of the first k unknowns."""
    return all([index >= k for index in speaks_of(space, one)])


def without_first(one, k):
    """A polynomial with the first k exponents of each power left out."""
    return tuple([(power[k:], number) for power, number in one])
