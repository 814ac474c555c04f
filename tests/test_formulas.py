"""formulas.py: points 9.1 and 9.2 of the document, and 0.2, 0.3 and 0.4 for its functions."""

import copy
import itertools
import unittest

from helpers import (NAMES, SIZES, all_tuples, every_polynomial, plain_solutions, plain_value, some_systems,
                     space_of, well_formed, wrong_forms, wrong_points)
from standingpowers.bases import standing
from standingpowers.formulas import formula, judge_formula
from standingpowers.polynomials import constant, minus, plus, times, unknown
from standingpowers.reading import read_polynomial, read_system
from standingpowers.spaces import Space
from standingpowers.systems import System

SIZES_FROM_TWO = [(prime, count) for prime, count in SIZES if count > 1]
SMALL = [(2, 2), (2, 3), (3, 2), (5, 2)]


def some_questions(count):
    """Unknowns with lists of others: one, all, all turned round, and some in another order."""
    names = NAMES[:count]
    found = []
    for name in {names[0], names[-1], names[count // 2]}:
        others = [other for other in names if other != name]
        lists = [others[:1], others[-1:], others, others[::-1], others[1:] + others[:1]]
        found += [(name, list(chosen)) for chosen in sorted(set(map(tuple, lists)))]
    return sorted(found)


def numbers_for(system, names, point):
    return tuple(point[system.space.names.index(name)] for name in names)


def plain_numbers(system, name, names, solutions):
    """For each point of the shadow the numbers that the unknown has above it, by the words of point 9.1."""
    found = {}
    for point in solutions:
        found.setdefault(numbers_for(system, names, point), set()).update(numbers_for(system, [name], point))
    return found


def is_right(system, name, names, solutions, answer):
    """Whether an answer is right by the words of point 9.2."""
    prime = system.space.prime
    if answer[0] == "formula":
        if not well_formed(prime, len(names), answer[1]):
            return False
        return all(plain_value(prime, answer[1], numbers_for(system, names, point))
                   == numbers_for(system, [name], point)[0] for point in solutions)
    if answer[1] not in solutions or answer[2] not in solutions:
        return False
    return (numbers_for(system, names, answer[1]) == numbers_for(system, names, answer[2])
            and numbers_for(system, [name], answer[1]) != numbers_for(system, [name], answer[2]))


class FormulaTest(unittest.TestCase):
    def assert_answer(self, system, name, names, solutions):
        space = system.space
        kept = copy.deepcopy((names, system.equations))
        answer = formula(system, name, names)
        self.assertIs(type(answer), tuple)
        above = plain_numbers(system, name, names, solutions)
        if all(len(numbers) == 1 for numbers in above.values()):
            self.assertEqual(answer[0], "formula")
            self.assertEqual(len(answer), 2)
            polynomial = answer[1]
            self.assertTrue(well_formed(space.prime, len(names), polynomial))
            for point, numbers in above.items():
                self.assertEqual({plain_value(space.prime, polynomial, point)}, numbers)
            allowed = standing(Space(space.prime, names), sorted(above), "degree")
            self.assertTrue({power for power, number in polynomial} <= set(allowed))
        else:
            self.assertEqual(answer[0], "two")
            self.assertEqual(len(answer), 3)
            self.assertTrue(is_right(system, name, names, solutions, answer))
        self.assertIs(judge_formula(system, name, names, answer), True)
        self.assertEqual((names, system.equations), kept)

    def test_all_sizes(self):
        for prime, count in SIZES_FROM_TWO:
            for system in some_systems(prime, count):
                solutions = plain_solutions(system)
                for name, names in some_questions(count):
                    self.assert_answer(system, name, names, solutions)

    def test_every_system_of_a_tiny_space(self):
        for equation in every_polynomial(2, 3):
            system = System(space_of(2, 3), [equation])
            for name, names in (("x", ["y"]), ("z", ["y", "x"]), ("y", ["x", "z"])):
                self.assert_answer(system, name, names, plain_solutions(system))

    def test_systems_that_determine(self):
        for prime, count in SIZES_FROM_TWO:
            space = space_of(prime, count)
            x, y = unknown(space, 0), unknown(space, 1)
            # The square of y and one more, less x: so y determines x.
            one = minus(space, plus(space, times(space, y, y), constant(space, 1)), x)
            for equations in ([one], [one, y], [one, minus(space, x, y)]):
                system = System(space, equations)
                for names in (["y"], NAMES[1:count], NAMES[1:count][::-1]):
                    self.assertEqual(formula(system, "x", names)[0], "formula")
                    self.assert_answer(system, "x", names, plain_solutions(system))

    def test_by_hand(self):
        system = read_system("numbers 3\nunknowns x y z\nx = y^2 + 1\nz = x*y")
        self.assertEqual(formula(system, "x", ["y"]), ("formula", read_polynomial(Space(3, ["y"]), "y^2 + 1")))
        # At the points 0, 1, 2 of y, z is 0, 2 and 1.
        self.assertEqual(formula(system, "z", ["y"]), ("formula", read_polynomial(Space(3, ["y"]), "2*y")))
        self.assertEqual(formula(system, "y", ["x"]), ("two", (2, 1, 2), (2, 2, 1)))
        self.assertEqual(formula(system, "y", ["z", "x"]),
                         ("formula", read_polynomial(Space(3, ["z", "x"]), "2*z")))

    def test_only_standing_powers(self):
        system = read_system("numbers 5\nunknowns x y\ny = 2*x^3\nx^2 = x")
        # The shadow on x is 0 and 1, so that only 1 and x are standing.
        self.assertEqual(formula(system, "y", ["x"]), ("formula", read_polynomial(Space(5, ["x"]), "2*x")))
        constant_one = read_system("numbers 5\nunknowns x y\ny = x + 1\nx = 3")
        self.assertEqual(formula(constant_one, "y", ["x"]), ("formula", (((0,), 4),)))
        zero = read_system("numbers 5\nunknowns x y\ny = 0")
        self.assertEqual(formula(zero, "y", ["x"]), ("formula", ()))

    def test_without_solutions(self):
        for prime, count in SIZES_FROM_TWO:
            space = space_of(prime, count)
            system = System(space, [constant(space, 1)])
            for name, names in some_questions(count):
                self.assertEqual(formula(system, name, names), ("formula", ()))

    def test_without_equations(self):
        for prime, count in SIZES_FROM_TWO:
            system = System(space_of(prime, count), [])
            for name, names in some_questions(count):
                self.assertEqual(formula(system, name, names)[0], "two")
                self.assert_answer(system, name, names, all_tuples(prime, count))

    def test_256_points(self):
        space = space_of(2, 8)
        total = constant(space, 1)
        for index in range(8):
            total = plus(space, total, unknown(space, index))
        system = System(space, [total])
        polynomial = (((1, 0, 0, 0, 0, 0, 0), 1), ((0, 1, 0, 0, 0, 0, 0), 1), ((0, 0, 1, 0, 0, 0, 0), 1),
                      ((0, 0, 0, 1, 0, 0, 0), 1), ((0, 0, 0, 0, 1, 0, 0), 1), ((0, 0, 0, 0, 0, 1, 0), 1),
                      ((0, 0, 0, 0, 0, 0, 1), 1), ((0, 0, 0, 0, 0, 0, 0), 1))
        self.assertEqual(formula(system, "z", ["t", "x", "y", "s", "u", "w", "v"]), ("formula", polynomial))


class JudgeTest(unittest.TestCase):
    def cases(self):
        """Systems of small spaces, unknowns, lists of others and the answers."""
        for prime, count in SMALL:
            space = space_of(prime, count)
            x, y = unknown(space, 0), unknown(space, 1)
            more = [System(space, [minus(space, plus(space, times(space, y, y), constant(space, 1)), x)])]
            for system in some_systems(prime, count) + more:
                for name, names in some_questions(count):
                    yield system, name, names, formula(system, name, names)

    def test_every_polynomial_and_pair_of_points_of_tiny_spaces(self):
        questions = {2: [("x", ["y"]), ("y", ["x"])], 3: [("z", ["y"]), ("x", ["z", "y"]), ("y", ["x", "z"])]}
        for prime, count in ((2, 2), (3, 2), (2, 3)):
            things = all_tuples(prime, count) + [(), (0,) * (count + 1), (-1,) * count, (prime,) * count]
            for system in some_systems(prime, count):
                solutions = plain_solutions(system)
                for name, names in questions[count]:
                    answers = [("formula", one) for one in every_polynomial(prime, len(names))]
                    answers += [("two", one, other) for one in things for other in things]
                    for answer in answers:
                        right = is_right(system, name, names, solutions, answer)
                        self.assertIs(judge_formula(system, name, names, answer), right)

    def test_what_is_accepted_is_true(self):
        polynomials = [("formula", one) for one in every_polynomial(2, 1)]
        pairs = [("two", one, other) for one in all_tuples(2, 2) for other in all_tuples(2, 2)]
        for equation in every_polynomial(2, 2):
            system = System(space_of(2, 2), [equation])
            above = plain_numbers(system, "y", ["x"], plain_solutions(system))
            true = all(len(numbers) == 1 for numbers in above.values())
            self.assertIs(any(judge_formula(system, "y", ["x"], answer) for answer in polynomials), true)
            self.assertIs(any(judge_formula(system, "y", ["x"], answer) for answer in pairs), not true)

    def test_polynomials_with_other_powers(self):
        system = read_system("numbers 5\nunknowns x y\ny = 2*x^3\nx^2 = x")
        line = Space(5, ["x"])
        for text in ("2*x", "2*x^2", "2*x^3", "2*x^4", "x^4 + x", "3*x^2 + 4*x"):
            self.assertIs(judge_formula(system, "y", ["x"], ("formula", read_polynomial(line, text))), True)
        for text in ("0", "2", "x", "2*x + 1", "x^2", "2*x^2 + x"):
            self.assertIs(judge_formula(system, "y", ["x"], ("formula", read_polynomial(line, text))), False)

    def test_any_polynomial_without_solutions(self):
        system = System(space_of(2, 3), [constant(space_of(2, 3), 1)])
        for one in every_polynomial(2, 2):
            self.assertIs(judge_formula(system, "x", ["z", "y"], ("formula", one)), True)
            for wrong in wrong_forms(space_of(2, 2), one):
                self.assertIs(judge_formula(system, "x", ["z", "y"], ("formula", wrong)), False)
        self.assertIs(judge_formula(system, "x", ["y"], ("two", (0, 0, 0), (1, 0, 0))), False)

    def test_polynomials_that_are_none_of_the_space(self):
        for system, name, names, answer in self.cases():
            if answer[0] == "formula":
                for wrong in wrong_forms(space_of(system.space.prime, len(names)), answer[1]):
                    self.assertIs(judge_formula(system, name, names, ("formula", wrong)), False)

    def test_the_space_of_the_list_and_not_that_of_the_system(self):
        system = read_system("numbers 3\nunknowns x y z\nx = y\nz = 0")
        self.assertIs(judge_formula(system, "x", ["y"], ("formula", (((1,), 1),))), True)
        for wrong in ((((0, 1, 0), 1),), (((1, 0), 1),), (((0, 1), 1),)):
            self.assertIs(judge_formula(system, "x", ["y"], ("formula", wrong)), False)
        self.assertIs(judge_formula(system, "x", ["z", "y"], ("formula", (((0, 1), 1),))), True)
        self.assertIs(judge_formula(system, "x", ["z", "y"], ("formula", (((1, 0), 1),))), False)

    def test_points_that_are_none_of_the_space(self):
        for system, name, names, answer in self.cases():
            if answer[0] == "two":
                for wrong in wrong_points(system.space.prime, answer[1]):
                    self.assertIs(judge_formula(system, name, names, ("two", wrong, answer[2])), False)
                    self.assertIs(judge_formula(system, name, names, ("two", answer[2], wrong)), False)
                    self.assertIs(judge_formula(system, name, names, ("two", wrong, wrong)), False)

    def test_a_word_that_is_none(self):
        for system, name, names, (kind, *told) in self.cases():
            if kind == "two":
                for word in ("", "Two", "three"):
                    self.assertIs(judge_formula(system, name, names, (word, *told)), False)

    def test_points_that_are_equal_or_differ_where_they_should_not(self):
        for system, name, names, answer in self.cases():
            solutions = plain_solutions(system)
            for one in solutions:
                self.assertIs(judge_formula(system, name, names, ("two", one, one)), False)
            for one, other in itertools.product(system.space.points(), repeat=2):
                told = ("two", one, other)
                right = is_right(system, name, names, solutions, told)
                self.assertIs(judge_formula(system, name, names, told), right)


class ListsTest(unittest.TestCase):
    def test_arguments_stay_as_they_were(self):
        for system in some_systems(3, 2):
            names = ["y"]
            answer = formula(system, "x", names)
            kept = copy.deepcopy((names, answer, system.equations, vars(system.space)))
            judge_formula(system, "x", names, answer)
            judge_formula(system, "x", names, ("two", (0, 0), (0, 1)))
            self.assertEqual((names, answer, system.equations, vars(system.space)), kept)


if __name__ == "__main__":
    unittest.main()
