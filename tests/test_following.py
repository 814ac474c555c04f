"""following.py: points 7.1 and 7.2 of the document, and 0.2, 0.3 and 0.4 for its functions."""

import copy
import itertools
import unittest

from helpers import (SIZES, SMALL_SIZES, all_tuples, every_polynomial, plain_solutions, plain_value,
                     some_polynomials, some_systems, space_of, sum_of_products, well_formed, wrong_forms, wrong_points)
from standingpowers.following import follows, judge_follows
from standingpowers.polynomials import constant, minus, plus, times, unknown
from standingpowers.systems import System


class FollowsTest(unittest.TestCase):
    def assert_answer(self, system, one, solutions):
        """Whether the answer is right by the words of point 7.1."""
        space = system.space
        kept = list(system.equations)
        answer = follows(system, one)
        self.assertIs(type(answer), tuple)
        kind, told = answer
        if all(plain_value(space.prime, one, point) == 0 for point in solutions):
            self.assertEqual(kind, "follows")
            self.assertIs(type(told), list)
            self.assertEqual(len(told), len(kept))
            self.assertTrue(all(well_formed(space.prime, space.count, factor) for factor in told))
            self.assertEqual(sum_of_products(space, told, kept), one)
        else:
            self.assertEqual(kind, "fails")
            self.assertIs(type(told), tuple)
            self.assertIn(told, solutions)
            self.assertNotEqual(plain_value(space.prime, one, told), 0)
        self.assertIs(judge_follows(system, one, answer), True)
        self.assertEqual(system.equations, kept)

    def test_all_sizes(self):
        for prime, count in SIZES:
            for system in some_systems(prime, count):
                chosen = some_polynomials(prime, count, 4 + len(system.equations), 5)[4:]
                solutions = plain_solutions(system)
                following = sum_of_products(system.space, chosen, system.equations)
                for one in some_polynomials(prime, count, 5) + [following]:
                    self.assert_answer(system, one, solutions)

    def test_every_polynomial_of_tiny_spaces(self):
        for prime, count in ((2, 1), (2, 2), (3, 1)):
            for system in some_systems(prime, count):
                solutions = plain_solutions(system)
                for one in every_polynomial(prime, count):
                    self.assert_answer(system, one, solutions)

    def test_without_equations(self):
        for prime, count in SIZES:
            space = space_of(prime, count)
            system = System(space, [])
            self.assertEqual(follows(system, ()), ("follows", []))
            self.assertEqual(follows(system, constant(space, 1))[0], "fails")
            self.assert_answer(system, unknown(space, 0), all_tuples(prime, count))

    def test_without_solutions(self):
        for prime, count in SIZES:
            space = space_of(prime, count)
            x = unknown(space, 0)
            system = System(space, [x, minus(space, x, constant(space, 1))])
            for one in some_polynomials(prime, count, 5):
                self.assertEqual(follows(system, one)[0], "follows")
                self.assert_answer(system, one, [])

    def test_by_hand(self):
        space = space_of(3, 2)
        x, y = unknown(space, 0), unknown(space, 1)
        system = System(space, [minus(space, x, y), minus(space, y, constant(space, 2))])
        self.assertEqual(follows(system, x), ("fails", (2, 2)))
        self.assertEqual(follows(system, minus(space, x, constant(space, 2)))[0], "follows")
        self.assertEqual(follows(system, ())[0], "follows")

    def test_256_points_and_one_that_fails(self):
        space = space_of(2, 8)
        system = System(space, [])
        last = tuple([((1,) * 8, 1)])
        self.assertEqual(follows(system, last), ("fails", (1,) * 8))
        self.assertIs(judge_follows(system, last, ("fails", (1,) * 8)), True)
        self.assertIs(judge_follows(system, last, ("fails", (1,) * 7 + (0,))), False)


class JudgeTest(unittest.TestCase):
    def cases(self):
        """Systems of small spaces, polynomials and their answers."""
        for prime, count in SMALL_SIZES:
            for system in some_systems(prime, count):
                chosen = some_polynomials(prime, count, 4 + len(system.equations), 5)[4:]
                following = sum_of_products(system.space, chosen, system.equations)
                for one in some_polynomials(prime, count, 4) + [following]:
                    yield system, one, follows(system, one)

    def assert_wrong(self, system, one, answer):
        self.assertIs(judge_follows(system, one, answer), False)

    def test_every_answer_of_tiny_spaces(self):
        for prime, count in ((2, 1), (3, 1)):
            everything = list(every_polynomial(prime, count))
            things = [(), (0, 0), (-1,), (prime,)] + all_tuples(prime, count)
            for system in some_systems(prime, count):
                solutions = plain_solutions(system)
                for one in everything:
                    for thing in things:
                        right = thing in solutions and plain_value(prime, one, thing) != 0
                        self.assertIs(judge_follows(system, one, ("fails", thing)), right)
                    if len(system.equations) < 2:
                        for many in range(3):
                            for chosen in itertools.product(everything, repeat=many):
                                total = sum_of_products(system.space, chosen, system.equations)
                                right = many == len(system.equations) and total == one
                                self.assertIs(judge_follows(system, one, ("follows", list(chosen))), right)

    def test_other_right_answers(self):
        space = space_of(3, 2)
        x, y = unknown(space, 0), unknown(space, 1)
        one = constant(space, 1)
        system = System(space, [x, y])
        product = times(space, x, y)
        for chosen in ([y, ()], [(), x], [plus(space, y, y), times(space, x, constant(space, 2))],
                       [plus(space, y, y), minus(space, (), x)]):
            self.assertIs(judge_follows(system, product, ("follows", chosen)), True)
        for chosen in ([y, x], [(), ()], [x, y], [one, one]):
            self.assert_wrong(system, product, ("follows", chosen))
        every = System(space, [])
        for point in ((1, 1), (1, 2), (2, 1), (2, 2)):
            self.assertIs(judge_follows(every, product, ("fails", point)), True)
        for point in ((0, 0), (0, 2), (1, 0)):
            self.assert_wrong(every, product, ("fails", point))

    def test_factors_of_something_else(self):
        for system, one, (kind, told) in self.cases():
            other = plus(system.space, one, constant(system.space, 1))
            if kind == "follows":
                self.assert_wrong(system, other, ("follows", told))
            for chosen in ([()] * len(system.equations), [constant(system.space, 1)] * len(system.equations)):
                right = sum_of_products(system.space, chosen, system.equations) == one
                self.assertIs(judge_follows(system, one, ("follows", chosen)), right)

    def test_too_many_and_too_few_factors(self):
        for system, one, (kind, told) in self.cases():
            if kind == "follows":
                self.assert_wrong(system, one, ("follows", told + [()]))
                self.assert_wrong(system, one, ("follows", [()] + told))
                self.assert_wrong(system, one, ("follows", told + told + [()]))
                if told:
                    self.assert_wrong(system, one, ("follows", told[:-1]))
                    self.assert_wrong(system, one, ("follows", []))

    def test_factors_that_are_none_of_the_space(self):
        for system, one, (kind, told) in self.cases():
            if kind == "follows":
                for at, factor in enumerate(told[:3]):
                    for wrong in wrong_forms(system.space, factor):
                        self.assert_wrong(system, one, ("follows", told[:at] + [wrong] + told[at + 1:]))

    def test_points_that_are_none_of_the_space(self):
        for system, one, (kind, told) in self.cases():
            if kind == "fails":
                for wrong in wrong_points(system.space.prime, told):
                    self.assert_wrong(system, one, ("fails", wrong))

    def test_solutions_with_0_and_points_that_are_no_solutions(self):
        for system, one, answer in self.cases():
            solutions = plain_solutions(system)
            for point in system.space.points():
                right = point in solutions and plain_value(system.space.prime, one, point) != 0
                self.assertIs(judge_follows(system, one, ("fails", point)), right)

    def test_a_word_that_is_none(self):
        for system, one, (kind, told) in self.cases():
            if kind == "fails":
                for word in ("", "fail", "Fails", "two"):
                    self.assert_wrong(system, one, (word, told))

    def test_what_is_accepted_is_true(self):
        space = space_of(2, 2)
        everything = list(every_polynomial(2, 2))
        for equation, one in itertools.product(everything, repeat=2):
            system = System(space, [equation])
            true = all(plain_value(2, one, point) == 0 for point in plain_solutions(system))
            shown = [judge_follows(system, one, ("follows", [factor])) for factor in everything]
            refuted = [judge_follows(system, one, ("fails", point)) for point in all_tuples(2, 2)]
            self.assertIs(any(shown), true)
            self.assertIs(any(refuted), not true)


class ListsTest(unittest.TestCase):
    def test_lists_are_new_each_time(self):
        space = space_of(2, 2)
        x = unknown(space, 0)
        for system, one in ((System(space, [x, x]), x), (System(space, []), ())):
            first = follows(system, one)
            kept = copy.deepcopy(first)
            first[1].append(())
            first[1][0] = constant(space, 1)
            self.assertEqual(follows(system, one), kept)

    def test_arguments_stay_as_they_were(self):
        for system in some_systems(3, 1):
            for one in some_polynomials(3, 1, 5):
                answer = follows(system, one)
                kept = copy.deepcopy((answer, system.equations, vars(system.space)))
                judge_follows(system, one, answer)
                judge_follows(system, one, ("follows", [()]))
                self.assertEqual((answer, system.equations, vars(system.space)), kept)


if __name__ == "__main__":
    unittest.main()
