"""machines.py: points 19.1, 19.2 and 19.3 of the document, and 0.2, 0.3, 0.4 and 0.5 for its functions."""

import copy
import itertools
import random
import unittest

from helpers import (SIZES, all_tuples, every_polynomial, plain_solutions, plain_table, plain_value, some_polynomials,
                     some_systems, space_of, sum_of_products, well_formed, wrong_factors, wrong_forms, wrong_lengths,
                     wrong_points)
from standingpowers.bases import basis
from standingpowers.machines import Machine, check_safe, judge_safe
from standingpowers.polynomials import constant, minus, plus, replaced, times, unknown
from standingpowers.reading import read_polynomial
from standingpowers.sets import mark, opposite
from standingpowers.spaces import Space
from standingpowers.systems import System, factors
from standingpowers.tables import polynomial_of

SMALL = [(2, 1), (2, 2), (2, 3), (3, 1), (3, 2), (5, 1), (7, 1)]


def plain_after(machine, point):
    return tuple(plain_value(machine.space.prime, one, point) for one in machine.step)


def plain_levels(machine):
    """The lists of the points that are reached by runs of one point, of two points and so on, each point once."""
    levels, seen = [plain_solutions(machine.start)], {}
    while levels[-1]:
        seen.update((point, True) for point in levels[-1])
        levels.append(sorted({plain_after(machine, point) for point in levels[-1]} - set(seen)))
    return levels[:-1]


def shortest(machine, bad):
    """The number of points of the shortest runs to a solution of the bad system, None if there is none."""
    solutions = plain_solutions(bad)
    for many, level in enumerate(plain_levels(machine), 1):
        if any(point in solutions for point in level):
            return many
    return None


def is_shown(system, one, things):
    """Whether things are factors that show a polynomial, by the words of point 4.2."""
    space = system.space
    return (len(things) == len(system.equations)
            and all(well_formed(space.prime, space.count, thing) for thing in things)
            and sum_of_products(space, things, system.equations) == one)


def plain_judge(machine, bad, answer):
    """Whether an answer is right, by the words of points 19.2 and 19.3."""
    space = machine.space
    if answer[0] == "run":
        points = answer[1]
        return (points != [] and points[0] in plain_solutions(machine.start) and points[-1] in plain_solutions(bad)
                and all(point in all_tuples(space.prime, space.count) for point in points)
                and all(plain_after(machine, one) == other for one, other in zip(points, points[1:])))
    if answer[0] != "safe":
        return False
    equations, first, kept, apart = answer[1:]
    if not all(well_formed(space.prime, space.count, one) for one in equations):
        return False
    invariant = System(space, equations)
    later = [replaced(space, one, space, machine.step) for one in equations]
    return (len(first) == len(kept) == len(equations)
            and all(is_shown(machine.start, one, things) for one, things in zip(equations, first))
            and all(is_shown(invariant, one, things) for one, things in zip(later, kept))
            and is_shown(System(space, equations + bad.equations), constant(space, 1), apart))


def proof_by(machine, bad, equations):
    """The answer with an invariant, None if it proves nothing."""
    space = machine.space
    invariant = System(space, equations)
    first = [factors(machine.start, one) for one in equations]
    kept = [factors(invariant, replaced(space, one, space, machine.step)) for one in equations]
    apart = factors(System(space, equations + bad.equations), constant(space, 1))
    if None in first or None in kept or apart is None:
        return None
    return ("safe", equations, first, kept, apart)


def step_of(space, target):
    """The step that leads each point to the point that a function gives."""
    targets = [target(point) for point in space.points()]
    return [polynomial_of(space, [point[index] for point in targets]) for index in range(space.count)]


def at_point(space, point):
    """The system of which a point is the only solution."""
    return System(space, [minus(space, unknown(space, index), constant(space, number))
                          for index, number in enumerate(point)])


def some_steps(prime, count):
    """Steps of a space: one that keeps all points, one that leads all to one, a ring of all points, and others."""
    space = space_of(prime, count)
    points = space.points()
    chance = random.Random(prime * 10 + count)
    found = [[unknown(space, index) for index in range(count)],
             [constant(space, prime - 1)] * count,
             step_of(space, lambda point: points[(points.index(point) + 1) % len(points)]),
             [unknown(space, (index + 1) % count) for index in range(count)]]
    for seed in range(2):
        found.append([chance.choice(some_polynomials(prime, count, 6, seed)) for _ in range(count)])
    return found


def some_machines(prime, count):
    systems = some_systems(prime, count)
    systems.append(at_point(space_of(prime, count), (prime - 1,) * count))
    for at, step in enumerate(some_steps(prime, count)):
        for start in systems[at % 2::2]:
            yield Machine(start, step)


def bad_systems(machine):
    """Bad systems for a machine: with no solutions, all, one that is reached last, those that are not, and others."""
    space = machine.space
    found = [System(space, [constant(space, 1)]), System(space, []), System(space, [()])]
    reached = [point for level in plain_levels(machine) for point in level]
    if reached:
        found.append(at_point(space, reached[-1]))
        found.append(at_point(space, reached[0]))
    known = {point: True for point in reached}
    found.append(System(space, [polynomial_of(space, [1 if point in known else 0 for point in space.points()])]))
    others = [point for point in space.points() if point not in known]
    if others:
        found.append(at_point(space, others[-1]))
    return found + some_systems(space.prime, space.count)[5:8]


class MachineTest(unittest.TestCase):
    def test_fields(self):
        space = Space(3, ["x", "y"])
        start = System(space, [unknown(space, 0)])
        step = [unknown(space, 1), constant(space, 2)]
        machine = Machine(start, step)
        self.assertIs(machine.start, start)
        self.assertEqual(machine.step, step)
        self.assertEqual((machine.space.prime, machine.space.names), (3, ["x", "y"]))
        self.assertIs(type(machine.step), list)

    def test_it_copies_the_step(self):
        space = Space(3, ["x", "y"])
        step = [read_polynomial(space, "x + 1"), read_polynomial(space, "y")]
        kept = list(step)
        machine = Machine(System(space, [unknown(space, 0), unknown(space, 1)]), step)
        step[0] = ()
        step.pop()
        self.assertEqual(machine.step, kept)
        self.assertEqual(machine.after((1, 2)), (2, 2))
        self.assertEqual(machine.reached(), [(0, 0), (1, 0), (2, 0)])

    def test_after_and_reached(self):
        for prime, count in SIZES:
            for machine in list(some_machines(prime, count))[::2]:
                points = all_tuples(prime, count)
                for point in points[::max(1, len(points) // 10)]:
                    found = machine.after(point)
                    self.assertIs(type(found), tuple)
                    self.assertEqual(found, plain_after(machine, point))
                found = machine.reached()
                self.assertIs(type(found), list)
                self.assertEqual(found, sorted(point for level in plain_levels(machine) for point in level))

    def test_reached_by_hand(self):
        space = Space(5, ["x"])
        double = [read_polynomial(space, "2*x")]
        self.assertEqual(Machine(at_point(space, (1,)), double).reached(), [(1,), (2,), (3,), (4,)])
        self.assertEqual(Machine(at_point(space, (0,)), double).reached(), [(0,)])
        self.assertEqual(Machine(System(space, []), double).reached(), space.points())
        self.assertEqual(Machine(System(space, [constant(space, 1)]), double).reached(), [])
        square = [read_polynomial(space, "x^2")]
        self.assertEqual(Machine(at_point(space, (3,)), square).reached(), [(1,), (3,), (4,)])

    def test_steps_that_keep_and_that_lead_to_one(self):
        for prime, count in SIZES:
            space = space_of(prime, count)
            stay, collapse, ring = some_steps(prime, count)[:3]
            last = (prime - 1,) * count
            for start in some_systems(prime, count):
                solutions = plain_solutions(start)
                self.assertEqual(Machine(start, stay).reached(), solutions)
                wanted = sorted(set(solutions + [last])) if solutions else []
                self.assertEqual(Machine(start, collapse).reached(), wanted)
                self.assertEqual(Machine(start, ring).reached(), space.points() if solutions else [])


class WayTest(unittest.TestCase):
    def plain_way(self, machine, point):
        points = [point]
        while plain_after(machine, points[-1]) not in points:
            points.append(plain_after(machine, points[-1]))
        return points, points.index(plain_after(machine, points[-1]))

    def test_all_sizes(self):
        for prime, count in SIZES:
            start = System(space_of(prime, count), [])
            points = all_tuples(prime, count)
            for step in some_steps(prime, count)[:2] + some_steps(prime, count)[3:]:
                machine = Machine(start, step)
                for point in points[::max(1, len(points) // 6)]:
                    found = machine.way(point)
                    self.assertEqual((type(found), type(found[0]), type(found[1])), (tuple, list, int))
                    self.assertEqual(found, self.plain_way(machine, point))

    def test_by_hand(self):
        space = Space(5, ["x"])
        machine = Machine(System(space, []), [read_polynomial(space, "x^2")])
        ways = [([(0,)], 0), ([(1,)], 0), ([(2,), (4,), (1,)], 2), ([(3,), (4,), (1,)], 2), ([(4,), (1,)], 1)]
        self.assertEqual([machine.way((number,)) for number in range(5)], ways)
        machine = Machine(System(space, [constant(space, 1)]), [read_polynomial(space, "2*x")])
        self.assertEqual(machine.way((3,)), ([(3,), (1,), (2,), (4,)], 0))

    def test_a_ring_of_all_points(self):
        for prime, count in SIZES:
            points = all_tuples(prime, count)
            machine = Machine(System(space_of(prime, count), []), some_steps(prime, count)[2])
            for at in (0, 1, len(points) - 1):
                self.assertEqual(machine.way(points[at]), (points[at:] + points[:at], 0))

    def test_into_a_ring_from_outside(self):
        # 0 leads to 1, 1 to 2 and so on, and the last point back to one in the middle.
        for prime, count in ((2, 8), (3, 5), (7, 2), (2, 2)):
            space = space_of(prime, count)
            points = space.points()
            back = len(points) // 3
            targets = points[1:] + [points[back]]
            step = step_of(space, lambda point: targets[points.index(point)])
            machine = Machine(System(space, []), step)
            self.assertEqual(machine.way(points[0]), (points, back))
            self.assertEqual(machine.way(points[back]), (points[back:], 0))
            self.assertEqual(machine.way(points[-1]), (points[-1:] + points[back:-1], 0))


class CheckTest(unittest.TestCase):
    def assert_answer(self, machine, bad):
        kept = copy.deepcopy((machine.start.equations, machine.step, bad.equations))
        answer = check_safe(machine, bad)
        many = shortest(machine, bad)
        self.assertIs(type(answer), tuple)
        if many is None:
            self.assertEqual((answer[0], len(answer)), ("safe", 5))
            for part in answer[1:]:
                self.assertIs(type(part), list)
            for lists in answer[2:4]:
                self.assertTrue(all(type(chosen) is list for chosen in lists))
            self.assertLessEqual(len(answer[1]), 256)
        else:
            self.assertEqual((answer[0], len(answer), type(answer[1])), ("run", 2, list))
            self.assertEqual(len(answer[1]), many)
        self.assertTrue(plain_judge(machine, bad, answer))
        self.assertIs(judge_safe(machine, bad, answer), True)
        self.assertEqual((machine.start.equations, machine.step, bad.equations), kept)
        return answer

    def test_small_spaces(self):
        kinds = []
        for prime, count in SMALL:
            for machine in some_machines(prime, count):
                kinds += [self.assert_answer(machine, bad)[0] for bad in bad_systems(machine)]
        self.assertGreater(kinds.count("safe"), 100)
        self.assertGreater(kinds.count("run"), 100)

    def test_greatest_spaces(self):
        for prime, count in ((2, 8), (3, 5), (5, 3), (7, 2)):
            for machine in list(some_machines(prime, count))[::5]:
                for bad in bad_systems(machine)[::2]:
                    self.assert_answer(machine, bad)

    def test_every_machine_of_a_tiny_space(self):
        space = space_of(2, 1)
        everything = list(every_polynomial(2, 1))
        for start, step, bad in itertools.product(everything, repeat=3):
            self.assert_answer(Machine(System(space, [start]), [step]), System(space, [bad]))
        space = space_of(3, 1)
        everything = list(every_polynomial(3, 1))
        for step, start, bad in itertools.product(everything, everything[::4], everything[::5]):
            self.assert_answer(Machine(System(space, [start]), [step]), System(space, [bad]))

    def test_by_hand(self):
        space = Space(3, ["x", "y"])
        start = System(space, [read_polynomial(space, "x"), read_polynomial(space, "y - 1")])
        machine = Machine(start, [read_polynomial(space, "x + 1"), read_polynomial(space, "y^2")])
        bad = System(space, [read_polynomial(space, "x - 2")])
        self.assertEqual(check_safe(machine, bad), ("run", [(0, 1), (1, 1), (2, 1)]))
        self.assertEqual(self.assert_answer(machine, System(space, [read_polynomial(space, "y")]))[0], "safe")
        self.assertEqual(check_safe(machine, System(space, [])), ("run", [(0, 1)]))

    def test_no_solutions_of_the_start(self):
        for prime, count in SIZES:
            space = space_of(prime, count)
            nothing = System(space, [constant(space, 1)])
            for step in some_steps(prime, count)[:3]:
                machine = Machine(nothing, step)
                for bad in (System(space, []), nothing, System(space, [unknown(space, 0)])):
                    self.assertEqual(self.assert_answer(machine, bad)[0], "safe")

    def test_a_bad_system_without_solutions_and_with_all_points(self):
        for prime, count in SIZES:
            space = space_of(prime, count)
            for start in (System(space, []), at_point(space, (0,) * count)):
                for step in some_steps(prime, count)[:3]:
                    machine = Machine(start, step)
                    self.assertEqual(self.assert_answer(machine, System(space, [constant(space, 1)]))[0], "safe")
                    self.assertEqual(self.assert_answer(machine, System(space, [()]))[1], [(0,) * count])

    def test_one_point_that_only_the_longest_run_reaches(self):
        for prime, count in SIZES:
            space = space_of(prime, count)
            points = space.points()
            machine = Machine(at_point(space, points[0]), some_steps(prime, count)[2])
            self.assertEqual(check_safe(machine, at_point(space, points[-1])), ("run", points))
            self.assertIs(judge_safe(machine, at_point(space, points[-1]), ("run", points)), True)
            wide = Machine(opposite(at_point(space, points[-1])), some_steps(prime, count)[2])
            self.assertEqual(check_safe(wide, at_point(space, points[-1])), ("run", points[-2:]))

    def test_the_fewest_points_of_all_runs(self):
        # From 0 the bad point is far, from the other solution of the start it is near.
        space = Space(7, ["x"])
        up = [read_polynomial(space, "x + 1")]
        start = System(space, [read_polynomial(space, "x*(x - 4)")])
        self.assertEqual(check_safe(Machine(start, up), at_point(space, (6,))), ("run", [(4,), (5,), (6,)]))
        bad = System(space, [read_polynomial(space, "(x - 6)*(x - 2)")])
        found = self.assert_answer(Machine(start, up), bad)
        self.assertIn(found[1], ([(4,), (5,), (6,)], [(0,), (1,), (2,)]))
        self.assertEqual(check_safe(Machine(start, up), System(space, [read_polynomial(space, "(x - 3)*(x - 4)")])),
                         ("run", [(4,)]))

    def test_20_equations(self):
        space = space_of(2, 8)
        pairs = [times(space, unknown(space, at % 8), unknown(space, (at * 3 + 1) % 8)) for at in range(20)]
        start = System(space, pairs)
        for step in some_steps(2, 8)[:4]:
            for bad in (System(space, pairs[::-1]), System(space, [constant(space, 1)] * 20),
                        System(space, [plus(space, one, constant(space, 1)) for one in pairs])):
                self.assert_answer(Machine(start, step), bad)


class JudgeTest(unittest.TestCase):
    def assert_wrong(self, machine, bad, answer):
        self.assertIs(judge_safe(machine, bad, answer), False)

    def safe_cases(self):
        """Safe machines of small spaces with bad systems, and answers by the basis of the reached points."""
        for prime, count in SMALL:
            for machine in list(some_machines(prime, count))[::2]:
                space = machine.space
                for bad in bad_systems(machine):
                    if shortest(machine, bad) is None:
                        yield machine, bad, proof_by(machine, bad, basis(space, machine.reached(), "degree"))

    def run_cases(self):
        for prime, count in SMALL:
            for machine in list(some_machines(prime, count))[::2]:
                for bad in bad_systems(machine):
                    if shortest(machine, bad) is not None:
                        yield machine, bad, check_safe(machine, bad)[1]

    def test_the_basis_of_the_reached_points(self):
        for machine, bad, answer in self.safe_cases():
            kept = copy.deepcopy((answer, machine.start.equations, machine.step, bad.equations))
            self.assertIs(judge_safe(machine, bad, answer), True)
            self.assertEqual((answer, machine.start.equations, machine.step, bad.equations), kept)

    def test_invariants_that_are_not_the_least(self):
        many = 0
        for machine, bad, answer in self.safe_cases():
            space = machine.space
            # What is safe from the bad points for ever: no point of it leads to a bad one.
            wide = [point for point in space.points() if not self.meets(machine, point, plain_solutions(bad))]
            for equations in (basis(space, wide, "lex"), [mark(System(space, basis(space, wide, "lex")))],
                              basis(space, wide, "degree")[::-1] + [()]):
                found = proof_by(machine, bad, equations)
                self.assertIs(judge_safe(machine, bad, found), True)
                many += len(wide) > len(machine.reached())
        self.assertGreater(many, 50)

    def meets(self, machine, point, bad_points):
        return any(one in bad_points for one in machine.way(point)[0])

    def test_no_polynomials_as_an_invariant(self):
        for prime, count in SMALL:
            space = space_of(prime, count)
            x, one = unknown(space, 0), constant(space, 1)
            nothing = System(space, [x, minus(space, x, one)])
            for step in some_steps(prime, count):
                machine = Machine(System(space, []), step)
                self.assertIs(judge_safe(machine, System(space, [one]), ("safe", [], [], [], [one])), True)
                self.assertIs(judge_safe(machine, nothing, ("safe", [], [], [], [one, minus(space, (), one)])), True)
                self.assert_wrong(machine, System(space, []), ("safe", [], [], [], []))
                self.assert_wrong(machine, System(space, [x]), ("safe", [], [], [], [one]))
                self.assert_wrong(machine, System(space, [one]), ("safe", [], [], [], []))
                self.assert_wrong(machine, System(space, [one]), ("safe", [], [], [], [one, ()]))
                self.assert_wrong(machine, System(space, [one]), ("safe", [], [[]], [], [one]))
                self.assert_wrong(machine, System(space, [one]), ("safe", [], [], [[]], [one]))

    def test_invariants_that_prove_nothing(self):
        """Every invariant of one polynomial, with the factors that there are."""
        space = space_of(2, 2)
        everything = list(every_polynomial(2, 2))
        for machine in some_machines(2, 2):
            for bad in bad_systems(machine)[3:]:
                for one in everything:
                    lists = [factors(System(space, system), wanted) or [()] * len(system) for system, wanted in (
                        (machine.start.equations, one), ([one], replaced(space, one, space, machine.step)),
                        ([one] + bad.equations, constant(space, 1)))]
                    answer = ("safe", [one], [lists[0]], [lists[1]], lists[2])
                    right = plain_judge(machine, bad, answer)
                    self.assertIs(judge_safe(machine, bad, answer), right)
                    if right:
                        self.assertIsNone(shortest(machine, bad))

    def test_every_answer_of_the_least_space(self):
        space = space_of(2, 1)
        everything = list(every_polynomial(2, 1))
        accepted = 0
        for start, step, bad in itertools.product(everything, repeat=3):
            machine, bad_system = Machine(System(space, [start]), [step]), System(space, [bad])
            for one, first, kept in itertools.product(everything, repeat=3):
                for apart in itertools.product(everything, repeat=2):
                    answer = ("safe", [one], [[first]], [[kept]], list(apart))
                    right = judge_safe(machine, bad_system, answer)
                    if right:
                        accepted += 1
                        self.assertTrue(plain_judge(machine, bad_system, answer))
                        self.assertIsNone(shortest(machine, bad_system))
        self.assertGreater(accepted, 100)

    def test_too_many_and_too_few_lists_and_factors(self):
        for machine, bad, (kind, equations, first, kept, apart) in self.safe_cases():
            for wrong in wrong_lengths(first, len(machine.start.equations)):
                self.assert_wrong(machine, bad, (kind, equations, wrong, kept, apart))
            for wrong in wrong_lengths(kept, len(equations)):
                self.assert_wrong(machine, bad, (kind, equations, first, wrong, apart))
            fewer = [apart[:-1], apart[1:]] if apart else []
            for wrong in fewer + [apart + [()], [()] + apart, apart + apart + [()]]:
                self.assert_wrong(machine, bad, (kind, equations, first, kept, wrong))

    def test_a_polynomial_of_the_invariant_too_many_or_too_few(self):
        for machine, bad, (kind, equations, first, kept, apart) in self.safe_cases():
            self.assert_wrong(machine, bad, (kind, equations + [()], first, kept, apart))
            self.assert_wrong(machine, bad, (kind, [()] + equations, first, kept, apart))
            if equations:
                self.assert_wrong(machine, bad, (kind, equations[1:], first, kept, apart))
                self.assert_wrong(machine, bad, (kind, equations[:-1], first[:-1], kept[:-1], apart))

    def test_changed_factors(self):
        for machine, bad, (kind, equations, first, kept, apart) in self.safe_cases():
            space = machine.space
            for at, index, wrong in changed_factors(space, first):
                right = machine.start.equations[index] == ()
                self.assertIs(judge_safe(machine, bad, (kind, equations, wrong, kept, apart)), right)
            for at, index, wrong in changed_factors(space, kept):
                self.assert_wrong(machine, bad, (kind, equations, first, wrong, apart))
            for at, index, wrong in changed_factors(space, [apart]):
                right = (equations + bad.equations)[index] == ()
                self.assertIs(judge_safe(machine, bad, (kind, equations, first, kept, wrong[0])), right)

    def test_polynomials_that_are_none_of_the_space(self):
        for machine, bad, (kind, equations, first, kept, apart) in list(self.safe_cases())[::3]:
            space = machine.space
            for at, one in enumerate(equations[:3]):
                for wrong in wrong_forms(space, one):
                    others = equations[:at] + [wrong] + equations[at + 1:]
                    self.assert_wrong(machine, bad, (kind, others, first, kept, apart))
            for wrong in wrong_factors(space, first):
                self.assert_wrong(machine, bad, (kind, equations, wrong, kept, apart))
            for wrong in wrong_factors(space, kept):
                self.assert_wrong(machine, bad, (kind, equations, first, wrong, apart))
            for wrong in wrong_factors(space, [apart]):
                self.assert_wrong(machine, bad, (kind, equations, first, kept, wrong[0]))

    def test_the_lists_change_places(self):
        space = Space(3, ["x"])
        x, one = unknown(space, 0), constant(space, 1)
        machine = Machine(System(space, [times(space, x, x), x]), [constant(space, 0)])
        bad = System(space, [minus(space, x, one)])
        self.assertIs(judge_safe(machine, bad, ("safe", [x], [[(), one]], [[()]], [one, minus(space, (), one)])), True)
        self.assert_wrong(machine, bad, ("safe", [x], [[()]], [[(), one]], [one, minus(space, (), one)]))
        self.assert_wrong(machine, bad, ("safe", [x], [[one, ()]], [[()]], [one, minus(space, (), one)]))
        self.assert_wrong(machine, bad, ("safe", [x], [[(), one]], [[()]], [minus(space, (), one), one]))
        # 1 as the invariant would show all, but it does not follow from the start.
        self.assert_wrong(machine, bad, ("safe", [one], [[(), ()]], [[one]], [one, ()]))

    def test_right_runs(self):
        for machine, bad, run in self.run_cases():
            self.assertIs(judge_safe(machine, bad, ("run", run)), True)
            # Runs that are longer than needed are right if they end at a bad point again.
            points, index = machine.way(run[-1])
            longer = run + points[1:] + [machine.after(points[-1])]
            solutions = plain_solutions(bad)
            for many in range(len(run), len(longer) + 1):
                right = longer[many - 1] in solutions
                self.assertIs(judge_safe(machine, bad, ("run", longer[:many])), right)

    def test_wrong_runs(self):
        for machine, bad, run in self.run_cases():
            starts, ends = plain_solutions(machine.start), plain_solutions(bad)
            self.assert_wrong(machine, bad, ("run", []))
            for point in machine.space.points()[::3]:
                for wrong in ([point] + run, run + [point], run[:-1] + [point], [point] + run[1:], [point]):
                    right = (wrong[0] in starts and wrong[-1] in ends
                             and all(plain_after(machine, one) == other for one, other in zip(wrong, wrong[1:])))
                    self.assertIs(judge_safe(machine, bad, ("run", wrong)), right)
            if len(run) > 1:
                self.assert_wrong(machine, bad, ("run", run[1:]))
                self.assert_wrong(machine, bad, ("run", run[:-1]))
            if len(run) > 2:
                self.assert_wrong(machine, bad, ("run", run[:1] + run[2:]))
                self.assert_wrong(machine, bad, ("run", [run[0], run[-1]]))

    def test_points_that_are_none_of_the_space(self):
        for machine, bad, run in self.run_cases():
            for at in {0, len(run) // 2, len(run) - 1}:
                for wrong in wrong_points(machine.space.prime, run[at]):
                    self.assert_wrong(machine, bad, ("run", run[:at] + [wrong] + run[at + 1:]))
                    self.assert_wrong(machine, bad, ("run", [wrong]))
                    self.assert_wrong(machine, bad, ("run", run + [wrong]))

    def test_a_machine_is_not_both(self):
        for machine, bad, answer in list(self.safe_cases())[::4]:
            for size in (1, 2):
                for points in itertools.islice(itertools.product(machine.space.points(), repeat=size), 60):
                    self.assert_wrong(machine, bad, ("run", list(points)))

    def test_words_that_are_none(self):
        machine = Machine(System(space_of(2, 1), []), [unknown(space_of(2, 1), 0)])
        bad = System(space_of(2, 1), [unknown(space_of(2, 1), 0)])
        self.assertIs(judge_safe(machine, bad, ("run", [(0,)])), True)
        for word in ("", "Run", "runs", "way", "bad"):
            self.assert_wrong(machine, bad, (word, [(0,)]))

    def test_256_polynomials(self):
        space = space_of(2, 8)
        # All of the points outside a single one have a polynomial of their own, which is 0 elsewhere.
        points = space.points()
        only = points[77]
        equations = [polynomial_of(space, [1 if other == point else 0 for other in points])
                     for point in points if point != only] + [()]
        machine = Machine(at_point(space, only), [unknown(space, index) for index in range(8)])
        bad = opposite(machine.start)
        answer = proof_by(machine, bad, equations)
        self.assertEqual(len(answer[1]), 256)
        self.assertIs(judge_safe(machine, bad, answer), True)
        self.assert_wrong(machine, bad, answer[:4] + ([()] + answer[4][1:],))


def changed_factors(space, lists):
    """The lists of factors with one of them one more, and at which places it stands."""
    for at, chosen in enumerate(lists[:3]):
        for index in range(len(chosen)):
            wrong = [list(row) for row in lists]
            wrong[at][index] = plus(space, wrong[at][index], constant(space, 1))
            yield at, index, wrong


class ListsTest(unittest.TestCase):
    def test_lists_are_new_each_time(self):
        for machine in list(some_machines(3, 1)) + list(some_machines(2, 2)):
            reached = machine.reached()
            machine.reached().clear()
            self.assertEqual(machine.reached(), reached)
            point = machine.space.points()[-1]
            kept = copy.deepcopy(machine.way(point))
            machine.way(point)[0].clear()
            self.assertEqual(machine.way(point), kept)
            for bad in bad_systems(machine):
                before = copy.deepcopy((machine.start.equations, machine.step, bad.equations))
                answer = check_safe(machine, bad)
                for part in answer[1:]:
                    for inner in part:
                        if isinstance(inner, list):
                            inner.append(())
                    part.clear()
                self.assertIs(judge_safe(machine, bad, check_safe(machine, bad)), True)
                self.assertEqual((machine.start.equations, machine.step, bad.equations), before)

    def test_arguments_stay_as_they_were(self):
        for machine in some_machines(2, 2):
            for bad in bad_systems(machine):
                answer = check_safe(machine, bad)
                for other in (answer, answer[:1] + (answer[1] * 2,) + answer[2:]):
                    kept = copy.deepcopy((other, bad.equations, vars(machine.space)))
                    judge_safe(machine, bad, other)
                    self.assertEqual((other, bad.equations, vars(machine.space)), kept)


if __name__ == "__main__":
    unittest.main()
