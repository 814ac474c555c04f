"""systems.py: points 4.1 and 4.2 of the document, and 0.3 for its functions."""

import copy
import itertools
import unittest

from helpers import (SIZES, SMALL_SIZES, all_tuples, every_polynomial, plain_solutions, plain_value,
                     some_polynomials, some_systems, space_of, sum_of_products, well_formed)
from standingpowers.polynomials import constant, minus, plus, times, unknown
from standingpowers.systems import System, factors, shown


class SystemTest(unittest.TestCase):
    def test_fields(self):
        space = space_of(3, 2)
        equations = [unknown(space, 0), (), constant(space, 2)]
        system = System(space, equations)
        self.assertIs(system.space, space)
        self.assertIs(type(system.equations), list)
        self.assertEqual(system.equations, [(((1, 0), 1),), (), (((0, 0), 2),)])
        self.assertEqual(System(space, []).equations, [])

    def test_solutions(self):
        for prime, count in SIZES:
            for system in some_systems(prime, count):
                found = system.solutions()
                self.assertIs(type(found), list)
                self.assertTrue(all(type(point) is tuple for point in found))
                self.assertEqual(found, plain_solutions(system))
                for point in all_tuples(prime, count):
                    self.assertIs(system.is_solution(point), point in found)

    def test_every_system_of_two_equations_of_a_tiny_space(self):
        for prime, count in ((2, 2), (3, 1)):
            space = space_of(prime, count)
            for equations in itertools.product(every_polynomial(prime, count), repeat=2):
                system = System(space, list(equations))
                self.assertEqual(system.solutions(), plain_solutions(system))

    def test_solutions_by_hand(self):
        space = space_of(3, 2)
        # x + y and x - 1
        sums = (((1, 0), 1), ((0, 1), 1))
        self.assertEqual(System(space, [sums]).solutions(), [(0, 0), (1, 2), (2, 1)])
        self.assertEqual(System(space, [sums, (((1, 0), 1), ((0, 0), 2))]).solutions(), [(1, 2)])
        self.assertIs(System(space, [sums]).is_solution((1, 2)), True)
        self.assertIs(System(space, [sums]).is_solution((2, 2)), False)

    def test_without_equations_all_points_are_solutions(self):
        for prime, count in SIZES:
            system = System(space_of(prime, count), [])
            self.assertEqual(system.solutions(), all_tuples(prime, count))
            self.assertIs(system.is_solution((0,) * count), True)

    def test_without_solutions(self):
        for prime, count in SIZES:
            space = space_of(prime, count)
            self.assertEqual(System(space, [constant(space, 1)]).solutions(), [])
            self.assertIs(System(space, [constant(space, 1)]).is_solution((0,) * count), False)

    def test_twenty_equations(self):
        space = space_of(2, 8)
        equations = [times(space, unknown(space, at % 8), unknown(space, (at * 3 + 1) % 8)) for at in range(20)]
        system = System(space, equations)
        self.assertEqual(system.solutions(), plain_solutions(system))


class FactorsTest(unittest.TestCase):
    def assert_factors(self, system, one, solutions):
        """Whether the answer is right by the words of point 4.2."""
        space = system.space
        kept = list(system.equations)
        found = factors(system, one)
        self.assertEqual(system.equations, kept)
        if any(plain_value(space.prime, one, point) for point in solutions):
            self.assertIsNone(found)
            return
        self.assertIs(type(found), list)
        self.assertEqual(len(found), len(system.equations))
        self.assertTrue(all(well_formed(space.prime, space.count, factor) for factor in found))
        self.assertEqual(sum_of_products(space, found, system.equations), one)
        self.assertIs(shown(system, one, found), True)

    def test_all_sizes(self):
        for prime, count in SIZES:
            space = space_of(prime, count)
            for system in some_systems(prime, count):
                given = some_polynomials(prime, count, 5)
                chosen = some_polynomials(prime, count, 4 + len(system.equations), 5)[4:]
                solutions = plain_solutions(system)
                for one in given + [sum_of_products(space, chosen, system.equations)]:
                    self.assert_factors(system, one, solutions)

    def test_every_polynomial_of_tiny_spaces(self):
        for prime, count in ((2, 1), (2, 2), (2, 3), (3, 1)):
            for system in some_systems(prime, count):
                solutions = plain_solutions(system)
                for one in every_polynomial(prime, count):
                    self.assert_factors(system, one, solutions)

    def test_0_follows_from_everything(self):
        for prime, count in SMALL_SIZES:
            for system in some_systems(prime, count):
                self.assert_factors(system, (), plain_solutions(system))

    def test_without_equations_only_0_follows(self):
        for prime, count in SMALL_SIZES:
            space = space_of(prime, count)
            system = System(space, [])
            self.assertEqual(factors(system, ()), [])
            self.assertIsNone(factors(system, constant(space, 1)))
            self.assertIsNone(factors(system, unknown(space, 0)))

    def test_everything_follows_without_solutions(self):
        for prime, count in SMALL_SIZES:
            space = space_of(prime, count)
            x = unknown(space, 0)
            system = System(space, [x, minus(space, x, constant(space, 1))])
            self.assertEqual(system.solutions(), [])
            for one in some_polynomials(prime, count, 6):
                self.assertIsNotNone(factors(system, one))
                self.assert_factors(system, one, [])

    def test_what_follows_by_hand(self):
        space = space_of(2, 2)
        x, y = unknown(space, 0), unknown(space, 1)
        system = System(space, [plus(space, x, y), plus(space, x, constant(space, 1))])
        self.assertEqual(system.solutions(), [(1, 1)])
        self.assert_factors(system, plus(space, y, constant(space, 1)), [(1, 1)])
        self.assertIsNotNone(factors(system, plus(space, y, constant(space, 1))))
        self.assertIsNone(factors(system, y))


class ShownTest(unittest.TestCase):
    def test_by_the_sum_of_products(self):
        for prime, count in SMALL_SIZES:
            space = space_of(prime, count)
            for system in some_systems(prime, count):
                chosen = some_polynomials(prime, count, 5 + len(system.equations), 3)[5:]
                total = sum_of_products(space, chosen, system.equations)
                self.assertIs(shown(system, total, chosen), True)
                for other in some_polynomials(prime, count, 6):
                    self.assertIs(shown(system, other, chosen), other == total)

    def test_all_factors_of_a_tiny_space(self):
        space = space_of(2, 1)
        everything = list(every_polynomial(2, 1))
        system = System(space, [unknown(space, 0), constant(space, 1)])
        for chosen in itertools.product(everything, repeat=2):
            total = sum_of_products(space, chosen, system.equations)
            for one in everything:
                self.assertIs(shown(system, one, list(chosen)), one == total)

    def test_one_wrong_number(self):
        for prime in (3, 5, 7):
            space = space_of(prime, 2)
            system = System(space, [unknown(space, 0), unknown(space, 1)])
            one = plus(space, unknown(space, 0), unknown(space, 1))
            right = [constant(space, 1), constant(space, 1)]
            self.assertIs(shown(system, one, right), True)
            for number in [0] + list(range(2, prime)):
                self.assertIs(shown(system, one, [constant(space, number), right[1]]), False)
                self.assertIs(shown(system, one, [right[0], constant(space, number)]), False)

    def test_equal_at_the_solutions_is_not_enough(self):
        space = space_of(3, 1)
        x = unknown(space, 0)
        # 0 and x * x are the same at the only solution, and so are all of their products with x.
        self.assertIs(shown(System(space, [x]), times(space, x, x), [()]), False)
        self.assertIs(shown(System(space, [x]), times(space, x, x), [x]), True)

    def test_too_many_and_too_few(self):
        space = space_of(3, 2)
        x, y = unknown(space, 0), unknown(space, 1)
        one = constant(space, 1)
        system = System(space, [x, y])
        self.assertIs(shown(system, x, [one, ()]), True)
        for chosen in ([], [one], [one, (), ()], [one, (), (), ()], [()] * 256):
            self.assertIs(shown(system, x, chosen), False)
            self.assertIs(shown(system, (), chosen), False)
        self.assertIs(shown(system, (), [(), ()]), True)

    def test_without_equations(self):
        space = space_of(5, 1)
        system = System(space, [])
        self.assertIs(shown(system, (), []), True)
        self.assertIs(shown(system, constant(space, 1), []), False)
        self.assertIs(shown(system, (), [()]), False)
        self.assertIs(shown(system, constant(space, 1), [constant(space, 1)]), False)


class ListsTest(unittest.TestCase):
    def test_a_system_copies_its_equations(self):
        space = space_of(3, 1)
        equations = [unknown(space, 0)]
        system = System(space, equations)
        equations.append(constant(space, 1))
        equations[0] = ()
        self.assertEqual(system.equations, [(((1,), 1),)])
        self.assertEqual(system.solutions(), [(0,)])
        self.assertIs(system.is_solution((1,)), False)
        self.assertIs(shown(system, unknown(space, 0), [constant(space, 1)]), True)

    def test_lists_are_new_each_time(self):
        space = space_of(2, 2)
        system = System(space, [unknown(space, 0)])
        system.solutions().clear()
        self.assertEqual(system.solutions(), [(0, 0), (0, 1)])
        found = factors(system, unknown(space, 0))
        kept = list(found)
        found.append(())
        found[0] = ()
        self.assertEqual(factors(system, unknown(space, 0)), kept)
        empty = System(space, [])
        factors(empty, ()).append(())
        self.assertEqual(factors(empty, ()), [])
        empty.solutions().clear()
        self.assertEqual(len(empty.solutions()), 4)
        self.assertEqual(len(space.points()), 4)

    def test_arguments_stay_as_they_were(self):
        space = space_of(3, 2)
        equations = some_polynomials(3, 2, 6)[3:]
        chosen = some_polynomials(3, 2, 6, 4)[3:]
        one = sum_of_products(space, chosen, equations)
        kept = copy.deepcopy((vars(space), equations, chosen, one))
        system = System(space, equations)
        kept_equations = list(system.equations)
        shown(system, one, chosen)
        shown(system, one, chosen[1:])
        factors(system, one)
        system.solutions()
        system.is_solution((0, 1))
        self.assertEqual((vars(space), equations, chosen, one), kept)
        self.assertEqual(system.equations, kept_equations)


if __name__ == "__main__":
    unittest.main()
