"""Machines, and proofs that they stay away from bad points (section 19 of the document)."""

from standingpowers.maps import led_by_point, origin
from standingpowers.polynomials import are_polynomials, constant
from standingpowers.sets import marked, show_all
from standingpowers.systems import System, factors, shows, solves


class Machine:
    """A system, in whose solutions the machine starts, and the map with which it goes on."""

    def __init__(self, start, step):
        self.start = start
        self.step = list(step)
        self.space = start.space
        self._next_by_point = led_by_point(start.space, step)

    def after(self, point):
        """The point to which the step leads a point."""
        return self._next_by_point[point]

    def reached(self):
        """The points that are reached, ascending."""
        return sorted(points_before(self))

    def way(self, point):
        """The points from a point on, up to ahead of the first that comes again, and its index."""
        points = []
        while point not in points:
            points.append(point)
            point = self.after(point)
        return (points, points.index(point))


def points_before(machine):
    """A dict with the point before each reached point on a shortest run to it, None at the start.

    The points with shorter runs stand ahead of those with longer ones.
    """
    newest = machine.start.solutions()
    before = {point: None for point in newest}
    while newest != []:
        further = []
        for point in newest:
            target = machine.after(point)
            if target not in before:
                before[target] = point
                further.append(target)
        newest = further
    return before


def check_safe(machine, bad):
    """The reasons why no point that is reached is a bad one, or a shortest run to one."""
    before = points_before(machine)
    bad_points = {point: True for point in bad.solutions()}
    met = [point for point in before if point in bad_points]
    if met != []:
        return ("run", run_to(before, met[0]))
    return safe_answer(machine, bad, before)


def run_to(before, point):
    """The run to a point, by the points before each one."""
    run = []
    while point is not None:
        run.append(point)
        point = before[point]
    return run[::-1]


def safe_answer(machine, bad, reached):
    """The reasons why no point that is reached is a bad one."""
    space = machine.space
    # One polynomial is enough: the one that is 0 at just the points that are reached.
    invariant = marked(space, [0 if point in reached else 1 for point in space.points()])
    first = [factors(machine.start, one) for one in invariant.equations]
    stepped = origin(space, machine.step, invariant)
    kept = [factors(invariant, one) for one in stepped.equations]
    together = System(space, invariant.equations + bad.equations)
    return ("safe", list(invariant.equations), first, kept, factors(together, constant(space, 1)))


def judge_safe(machine, bad, answer):
    """Whether an answer about a machine and a bad system is right."""
    kind, *told = answer
    if kind == "safe":
        invariant, first, kept, apart = told
        return proves_safe(machine, bad, invariant, first, kept, apart)
    return kind == "run" and is_run_to(machine, bad, told[0])


def proves_safe(machine, bad, things, first, kept, apart):
    """Whether things in the place of an invariant and of its factors are such, and show what they are to show."""
    space = machine.space
    if not are_polynomials(space, things) or not show_all(machine.start, things, first):
        return False
    invariant = System(space, things)
    stepped = origin(space, machine.step, invariant)
    if not show_all(invariant, stepped.equations, kept):
        return False
    return shows(System(space, things + bad.equations), constant(space, 1), apart)


def is_run_to(machine, bad, things):
    """Whether things in the place of points are a run whose last point is a solution of the bad system."""
    if things == [] or not all([machine.space.is_point(thing) for thing in things]):
        return False
    steps = [machine.after(things[at - 1]) == things[at] for at in range(1, len(things))]
    return solves(machine.start, things[0]) and all(steps) and solves(bad, things[-1])
