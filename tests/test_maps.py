"""maps.py: points 11.1 and 11.2 of the document, and 0.2, 0.3 and 0.4 for its functions."""

import copy
import itertools
import random
import unittest

from helpers import (SIZES, all_tuples, every_polynomial, plain_solutions, plain_value, some_polynomials,
                     some_systems, space_of, well_formed, wrong_forms, wrong_points)
from standingpowers.bases import standing
from standingpowers.maps import image, judge_back, led, origin, way_back
from standingpowers.polynomials import constant, plus, times, unknown
from standingpowers.reading import read_polynomial, read_system
from standingpowers.spaces import Space
from standingpowers.systems import System
from standingpowers.tables import polynomial_of

# Primes with numbers of unknowns of a first and of a second space.
SMALL = [(2, 1, 1), (2, 1, 3), (2, 3, 1), (2, 2, 2), (2, 3, 3), (3, 1, 2), (3, 2, 1), (3, 2, 2), (5, 1, 2), (7, 1, 1)]
GREAT = [(2, 8, 8), (2, 8, 1), (2, 1, 8), (3, 5, 4), (3, 4, 5), (5, 3, 3), (5, 2, 3), (7, 2, 2), (7, 2, 1)]


def target_space(prime, count):
    """A space with other names than those of the first one."""
    return Space(prime, ["a", "b", "c", "d", "e", "f", "g", "h"][:count])


def some_maps(prime, count, many):
    """Always the same lists of polynomials of a space: with equal ones, of the unknowns, and others."""
    space = space_of(prime, count)
    chance = random.Random(prime * 100 + count * 10 + many)
    polynomials = some_polynomials(prime, count, 8, 9)
    found = [[constant(space, 1)] * many, [unknown(space, at % count) for at in range(many)],
             [unknown(space, (count - 1 - at) % count) for at in range(many)]]
    for _ in range(3):
        found.append([chance.choice(polynomials) for _ in range(many)])
    if many >= count:
        # The points change places, so that no two of them are led to one.
        points = all_tuples(prime, count)
        others = chance.sample(points, len(points))
        columns = [polynomial_of(space, [point[at] for point in others]) for at in range(count)]
        found.append(columns + [chance.choice(polynomials) for _ in range(many - count)])
    return found


def plain_led(prime, polynomials, point):
    return tuple(plain_value(prime, one, point) for one in polynomials)


def is_right(system, second, polynomials, answer):
    """Whether an answer is right by the words of point 11.2."""
    prime = system.space.prime
    solutions = plain_solutions(system)
    if answer[0] == "back":
        if len(answer[1]) != system.space.count:
            return False
        if not all(well_formed(prime, second.count, one) for one in answer[1]):
            return False
        return all(plain_led(prime, answer[1], plain_led(prime, polynomials, point)) == point for point in solutions)
    if answer[1] not in solutions or answer[2] not in solutions or answer[1] == answer[2]:
        return False
    return plain_led(prime, polynomials, answer[1]) == plain_led(prime, polynomials, answer[2])


class LedTest(unittest.TestCase):
    def test_all_points(self):
        for prime, count, many in SMALL:
            space = space_of(prime, count)
            for polynomials in some_maps(prime, count, many):
                for point in all_tuples(prime, count):
                    found = led(space, polynomials, point)
                    self.assertIs(type(found), tuple)
                    self.assertEqual(found, plain_led(prime, polynomials, point))

    def test_greatest_spaces(self):
        for prime, count, many in GREAT:
            for polynomials in some_maps(prime, count, many):
                for point in ((0,) * count, (prime - 1,) * count, (1,) * count):
                    self.assertEqual(led(space_of(prime, count), polynomials, point),
                                     plain_led(prime, polynomials, point))

    def test_by_hand(self):
        space = Space(5, ["x", "y"])
        polynomials = [read_polynomial(space, text) for text in ("x + y", "x*y", "3")]
        self.assertEqual(led(space, polynomials, (2, 4)), (1, 3, 3))
        self.assertEqual(led(space, polynomials[:1], (0, 0)), (0,))


class ImageTest(unittest.TestCase):
    def test_small_and_great_spaces(self):
        for prime, count, many in SMALL + GREAT:
            second = target_space(prime, many)
            for system in some_systems(prime, count)[::2 if (prime, count, many) in GREAT else 1]:
                solutions = system.solutions()
                for polynomials in some_maps(prime, count, many):
                    found = image(system, second, polynomials)
                    self.assertIs(type(found), list)
                    wanted = sorted({plain_led(prime, polynomials, point) for point in solutions})
                    self.assertEqual(found, wanted)

    def test_by_hand(self):
        system = read_system("numbers 3\nunknowns x y\nx + y = 1")
        self.assertEqual(system.solutions(), [(0, 1), (1, 0), (2, 2)])
        space = system.space
        polynomials = [read_polynomial(space, "2*x"), read_polynomial(space, "x*y")]
        self.assertEqual(image(system, Space(3, ["a", "b"]), polynomials), [(0, 0), (1, 1), (2, 0)])
        self.assertEqual(image(system, Space(3, ["a"]), polynomials[1:]), [(0,), (1,)])

    def test_without_solutions_and_without_equations(self):
        for prime, count, many in SMALL:
            space = space_of(prime, count)
            second = target_space(prime, many)
            for polynomials in some_maps(prime, count, many):
                self.assertEqual(image(System(space, [constant(space, 1)]), second, polynomials), [])
            self.assertEqual(image(System(space, []), second, [constant(space, 1)] * many), [(1,) * many])


class OriginTest(unittest.TestCase):
    def test_its_equations_and_solutions(self):
        for prime, count, many in SMALL + GREAT:
            first, second = space_of(prime, count), space_of(prime, many)
            great = (prime, count, many) in GREAT
            for system in some_systems(prime, many)[::4 if great else 1]:
                solutions = system.solutions()
                for polynomials in some_maps(prime, count, many)[::2]:
                    found = origin(first, polynomials, system)
                    self.assertIs(type(found), System)
                    self.assertIs(found.space, first)
                    self.assertEqual(len(found.equations), len(system.equations))
                    points = all_tuples(prime, count)[::31 if great else 1]
                    for replaced, equation in zip(found.equations, system.equations):
                        self.assertTrue(well_formed(prime, count, replaced))
                        for point in points:
                            wanted = plain_value(prime, equation, plain_led(prime, polynomials, point))
                            self.assertEqual(plain_value(prime, replaced, point), wanted)
                    if not great:
                        wanted = [point for point in points if plain_led(prime, polynomials, point) in solutions]
                        self.assertEqual(found.solutions(), wanted)
            self.assertEqual(origin(first, [()] * many, System(second, [])).equations, [])

    def test_by_hand(self):
        first, second = Space(3, ["x", "y"]), Space(3, ["a", "b", "c"])
        system = System(second, [read_polynomial(second, text) for text in ("a*b + c", "b", "c - 1", "2")])
        polynomials = [read_polynomial(first, text) for text in ("x + y", "x - y", "y^2")]
        self.assertEqual(origin(first, polynomials, system).equations,
                         [read_polynomial(first, text) for text in ("x^2", "x - y", "y^2 + 2", "2")])

    def test_20_equations(self):
        space = space_of(2, 8)
        equations = [times(space, unknown(space, at % 8), unknown(space, (at + 3) % 8)) for at in range(20)]
        polynomials = [unknown(space, 7 - at) for at in range(8)]
        found = origin(space, polynomials, System(space, equations))
        self.assertEqual(found.equations, [times(space, unknown(space, 7 - at % 8), unknown(space, 7 - (at + 3) % 8))
                                           for at in range(20)])


class WayBackTest(unittest.TestCase):
    def assert_answer(self, system, second, polynomials):
        prime = system.space.prime
        kept = copy.deepcopy((polynomials, system.equations))
        answer = way_back(system, second, polynomials)
        self.assertIs(type(answer), tuple)
        self.assertTrue(is_right(system, second, polynomials, answer))
        solutions = plain_solutions(system)
        targets = sorted({plain_led(prime, polynomials, point) for point in solutions})
        if len(targets) == len(solutions):
            self.assertEqual((answer[0], len(answer)), ("back", 2))
            self.assertIs(type(answer[1]), list)
            allowed = set(standing(second, targets, "degree"))
            self.assertTrue(all({power for power, number in one} <= allowed for one in answer[1]))
        else:
            self.assertEqual((answer[0], len(answer)), ("two", 3))
        self.assertIs(judge_back(system, second, polynomials, answer), True)
        self.assertEqual((polynomials, system.equations), kept)
        return answer[0]

    def test_small_and_great_spaces(self):
        kinds = []
        for prime, count, many in SMALL + GREAT:
            second = target_space(prime, many)
            for system in some_systems(prime, count)[::4 if (prime, count, many) in GREAT else 1]:
                for polynomials in some_maps(prime, count, many):
                    kinds.append(self.assert_answer(system, second, polynomials))
        self.assertGreater(kinds.count("back"), 100)
        self.assertGreater(kinds.count("two"), 100)

    def test_every_map_of_tiny_spaces(self):
        for prime, count, many in ((2, 1, 1), (2, 1, 2), (2, 2, 1), (3, 1, 1)):
            second = target_space(prime, many)
            for polynomials in itertools.product(every_polynomial(prime, count), repeat=many):
                for system in some_systems(prime, count):
                    self.assert_answer(system, second, list(polynomials))

    def test_by_hand(self):
        system = read_system("numbers 3\nunknowns x y\nx + y = 1")
        second = Space(3, ["a"])
        self.assertEqual(way_back(system, second, [read_polynomial(system.space, "2*x")]),
                         ("back", [read_polynomial(second, "2*a"), read_polynomial(second, "a + 1")]))
        self.assertEqual(way_back(system, second, [read_polynomial(system.space, "x*y")]),
                         ("two", (0, 1), (1, 0)))

    def test_one_point_only_outside_of_the_system(self):
        system = read_system("numbers 5\nunknowns x\nx*(x - 1)")
        second = Space(5, ["a"])
        square = read_polynomial(system.space, "x^2")
        # 1 and 4 have the same square, but 4 is no solution.
        self.assertEqual(way_back(system, second, [square]), ("back", [read_polynomial(second, "a")]))
        self.assert_answer(system, second, [square])
        self.assertEqual(way_back(System(system.space, []), second, [square])[0], "two")

    def test_only_standing_powers(self):
        system = read_system("numbers 7\nunknowns x y\nx^2 = x\ny = 3")
        second = Space(7, ["a", "b"])
        polynomials = [read_polynomial(system.space, "x + 2"), read_polynomial(system.space, "y")]
        self.assertEqual(way_back(system, second, polynomials),
                         ("back", [read_polynomial(second, "a - 2"), (((0, 0), 3),)]))

    def test_without_solutions(self):
        for prime, count, many in SMALL + GREAT:
            space = space_of(prime, count)
            system = System(space, [constant(space, 1)])
            for polynomials in some_maps(prime, count, many):
                self.assertEqual(way_back(system, target_space(prime, many), polynomials), ("back", [()] * count))

    def test_256_points(self):
        space = space_of(2, 8)
        system = System(space, [])
        turned = [unknown(space, 7 - at) for at in range(8)]
        self.assertEqual(way_back(system, space, turned), ("back", turned))
        self.assertEqual(self.assert_answer(system, space, turned[:7] + [constant(space, 1)]), "two")


class JudgeTest(unittest.TestCase):
    def cases(self):
        """Systems of small spaces, second spaces, maps and answers."""
        for prime, count, many in SMALL:
            second = target_space(prime, many)
            for system in some_systems(prime, count):
                for polynomials in some_maps(prime, count, many)[1:]:
                    yield system, second, polynomials, way_back(system, second, polynomials)

    def assert_wrong(self, system, second, polynomials, answer):
        self.assertIs(judge_back(system, second, polynomials, answer), False)

    def test_every_answer_of_tiny_spaces(self):
        for prime, count, many in ((2, 1, 1), (2, 2, 1), (3, 1, 1)):
            second = target_space(prime, many)
            things = all_tuples(prime, count) + [(), (0,) * (count + 1), (-1,) * count, (prime,) * count]
            answers = [("two", one, other) for one in things for other in things]
            for some in range(count + 2 if prime == 2 else 2):
                answers += [("back", list(chosen))
                            for chosen in itertools.product(every_polynomial(prime, many), repeat=some)]
            for system in some_systems(prime, count):
                for polynomials in some_maps(prime, count, many):
                    for answer in answers:
                        right = is_right(system, second, polynomials, answer)
                        self.assertIs(judge_back(system, second, polynomials, answer), right)

    def test_what_is_accepted_is_true(self):
        space, second = space_of(2, 2), target_space(2, 1)
        backs = [("back", list(chosen)) for chosen in itertools.product(every_polynomial(2, 1), repeat=2)]
        pairs = [("two", one, other) for one in all_tuples(2, 2) for other in all_tuples(2, 2)]
        for equation, one in itertools.product(every_polynomial(2, 2), repeat=2):
            system = System(space, [equation])
            solutions = plain_solutions(system)
            true = len({plain_value(2, one, point) for point in solutions}) == len(solutions)
            self.assertIs(any(judge_back(system, second, [one], answer) for answer in backs), true)
            self.assertIs(any(judge_back(system, second, [one], answer) for answer in pairs), not true)

    def test_polynomials_with_other_powers(self):
        system = read_system("numbers 5\nunknowns x\nx*(x - 1)")
        second = Space(5, ["a"])
        square = [read_polynomial(system.space, "x^2")]
        for text in ("a", "a^2", "a^3", "a^4", "3*a^4 + 3*a"):
            self.assertIs(judge_back(system, second, square, ("back", [read_polynomial(second, text)])), True)
        for text in ("0", "1", "a + 1", "2*a", "a^2 + a"):
            self.assert_wrong(system, second, square, ("back", [read_polynomial(second, text)]))

    def test_too_many_and_too_few_polynomials(self):
        for system, second, polynomials, answer in self.cases():
            if answer[0] == "back":
                backs = answer[1]
                for wrong in (backs + [()], [()] + backs, backs + backs, backs[1:], backs[:-1], []):
                    self.assert_wrong(system, second, polynomials, ("back", wrong))

    def test_polynomials_that_are_none_of_the_space(self):
        for system, second, polynomials, answer in self.cases():
            if answer[0] == "back":
                for at, one in enumerate(answer[1]):
                    for wrong in wrong_forms(second, one):
                        backs = answer[1][:at] + [wrong] + answer[1][at + 1:]
                        self.assert_wrong(system, second, polynomials, ("back", backs))

    def test_the_second_space_and_not_the_first(self):
        first, second = space_of(3, 2), target_space(3, 1)
        system = System(first, [unknown(first, 1)])
        polynomials = [unknown(first, 0)]
        self.assertIs(judge_back(system, second, polynomials, ("back", [(((1,), 1),), ()])), True)
        self.assert_wrong(system, second, polynomials, ("back", [(((1, 0), 1),), ()]))

    def test_polynomials_that_lead_elsewhere(self):
        for system, second, polynomials, answer in self.cases():
            if answer[0] == "back":
                for at, one in enumerate(answer[1]):
                    other = plus(second, one, constant(second, 1))
                    backs = answer[1][:at] + [other] + answer[1][at + 1:]
                    self.assertIs(judge_back(system, second, polynomials, ("back", backs)), system.solutions() == [])

    def test_points_that_are_none_of_the_space(self):
        for system, second, polynomials, answer in self.cases():
            if answer[0] == "two":
                for wrong in wrong_points(system.space.prime, answer[1]):
                    self.assert_wrong(system, second, polynomials, ("two", wrong, answer[2]))
                    self.assert_wrong(system, second, polynomials, ("two", answer[2], wrong))
                    self.assert_wrong(system, second, polynomials, ("two", wrong, wrong))

    def test_a_word_that_is_none(self):
        for system, second, polynomials, (kind, *told) in self.cases():
            if kind == "two":
                for word in ("", "Two", "three"):
                    self.assert_wrong(system, second, polynomials, (word, *told))

    def test_other_points(self):
        for system, second, polynomials, answer in self.cases():
            solutions = plain_solutions(system)
            leads = {point: plain_led(system.space.prime, polynomials, point) for point in system.space.points()}
            for one, other in itertools.product(leads, repeat=2):
                right = one != other and one in solutions and other in solutions and leads[one] == leads[other]
                self.assertIs(judge_back(system, second, polynomials, ("two", one, other)), right)


class ListsTest(unittest.TestCase):
    def test_lists_are_new_each_time(self):
        space = space_of(3, 2)
        system = System(space, [unknown(space, 0)])
        turned = [unknown(space, 1), unknown(space, 0)]
        found = image(system, space, turned)
        found.clear()
        self.assertEqual(image(system, space, turned), [(0, 0), (1, 0), (2, 0)])
        made = origin(space, turned, system)
        made.equations.clear()
        self.assertEqual(origin(space, turned, system).equations, [unknown(space, 1)])
        self.assertEqual(system.equations, [unknown(space, 0)])
        answer = way_back(system, space, turned)
        kept = copy.deepcopy(answer)
        answer[1].clear()
        self.assertEqual(way_back(system, space, turned), kept)

    def test_arguments_stay_as_they_were(self):
        for system in some_systems(3, 2):
            space, second = system.space, target_space(3, 2)
            for polynomials in some_maps(3, 2, 2):
                answer = way_back(system, second, polynomials)
                kept = copy.deepcopy((polynomials, answer, system.equations, vars(space), vars(second)))
                led(space, polynomials, (1, 2))
                image(system, second, polynomials)
                origin(space, polynomials, system)
                judge_back(system, second, polynomials, answer)
                judge_back(system, second, polynomials, ("back", [()]))
                self.assertEqual((polynomials, answer, system.equations, vars(space), vars(second)), kept)


if __name__ == "__main__":
    unittest.main()
