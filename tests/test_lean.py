"""lean.py: point 17.1 of the document, and 0.2, 0.3, 0.4 and 0.5 for its functions."""

import copy
import itertools
import random
import unittest

from helpers import (SIZES, SMALL_SIZES, every_polynomial, plain_solutions, some_polynomials, some_systems,
                     space_of)
from standingpowers.lean import is_needless, judge_lean, lean
from standingpowers.polynomials import constant, minus, times, unknown
from standingpowers.reading import read_system
from standingpowers.spaces import Space
from standingpowers.systems import System


def chosen_of(system, indexes):
    return System(system.space, [system.equations[index] for index in indexes])


def plain_needless(system, index):
    """Whether an equation is 0 at each solution of the others, by the words of point 17.1."""
    others = [at for at in range(len(system.equations)) if at != index]
    alone = plain_solutions(chosen_of(system, [index]))
    return all(point in alone for point in plain_solutions(chosen_of(system, others)))


def plain_judge(system, indexes):
    if list(indexes) != sorted(set(indexes)) or any(at not in range(len(system.equations)) for at in indexes):
        return False
    chosen = chosen_of(system, indexes)
    if plain_solutions(chosen) != plain_solutions(system):
        return False
    return not any(plain_needless(chosen, at) for at in range(len(indexes)))


def lists_of_indexes(many):
    """Lists of integers of which some may be lean choices of so many equations."""
    found = [list(chosen) for size in range(many + 1) for chosen in itertools.combinations(range(many), size)]
    return found + [chosen[::-1] for chosen in found if len(chosen) > 1]


class LeanTest(unittest.TestCase):
    def assert_lean(self, system):
        kept = list(system.equations)
        found = lean(system)
        self.assertIs(type(found), list)
        self.assertTrue(plain_judge(system, found), found)
        self.assertIs(judge_lean(system, found), True)
        self.assertEqual(system.equations, kept)
        return found

    def test_by_hand(self):
        system = read_system("numbers 3\nunknowns x y\nx\ny\nx + y\nx*y\n0\n2*x")
        found = self.assert_lean(system)
        self.assertEqual(len(found), 2)
        right = [chosen for chosen in lists_of_indexes(6) if judge_lean(system, chosen)]
        self.assertEqual(right, [[0, 1], [0, 2], [1, 2], [1, 5], [2, 3], [2, 5]])
        self.assertIn(found, right)

    def test_no_equations(self):
        for prime, count in SIZES:
            system = System(space_of(prime, count), [])
            self.assertEqual(lean(system), [])
            self.assertIs(judge_lean(system, []), True)
            for wrong in ([0], [-1], [1], [0, 1]):
                self.assertIs(judge_lean(system, wrong), False)

    def test_the_equation_0(self):
        for prime, count in SIZES:
            space = space_of(prime, count)
            for many in (1, 2, 20):
                system = System(space, [()] * many)
                self.assertEqual(lean(system), [])
                self.assertTrue(all(is_needless(system, index) for index in range(many)))
                self.assertIs(judge_lean(system, []), True)
                self.assertIs(judge_lean(system, [0]), False)
            system = System(space, [(), unknown(space, 0), ()])
            self.assertEqual([is_needless(system, index) for index in range(3)], [True, False, True])
            self.assertEqual(lean(system), [1])
            for wrong in ([], [0], [2], [0, 1], [1, 2], [0, 1, 2]):
                self.assertIs(judge_lean(system, wrong), False)

    def test_equal_equations(self):
        for prime, count in SIZES:
            space = space_of(prime, count)
            x = unknown(space, 0)
            system = System(space, [x, x, x])
            self.assertEqual([is_needless(system, index) for index in range(3)], [True] * 3)
            self.assertEqual(len(self.assert_lean(system)), 1)
            for index in range(3):
                self.assertIs(judge_lean(system, [index]), True)
            for wrong in ([], [0, 1], [1, 2], [0, 2], [0, 1, 2]):
                self.assertIs(judge_lean(system, wrong), False)

    def test_without_solutions(self):
        for prime, count in SIZES:
            space = space_of(prime, count)
            x, one = unknown(space, 0), constant(space, 1)
            self.assertEqual(lean(System(space, [one])), [0])
            self.assertIs(is_needless(System(space, [one]), 0), False)
            system = System(space, [x, one, minus(space, x, one)])
            self.assertEqual([is_needless(system, index) for index in range(3)], [True, True, True])
            self.assertIn(self.assert_lean(system), ([1], [0, 2]))
            right = [chosen for chosen in lists_of_indexes(3) if judge_lean(system, chosen)]
            self.assertEqual(right, [[1], [0, 2]])

    def test_all_but_any_one_have_a_common_solution(self):
        for prime, count in SMALL_SIZES:
            for system in some_systems(prime, count):
                if not plain_solutions(system):
                    found = self.assert_lean(system)
                    self.assertEqual(plain_solutions(chosen_of(system, found)), [])
                    for index in found:
                        others = [at for at in found if at != index]
                        self.assertNotEqual(plain_solutions(chosen_of(system, others)), [])

    def test_all_sizes(self):
        chance = random.Random(17)
        for prime, count in SIZES:
            space = space_of(prime, count)
            for system in some_systems(prime, count):
                self.assert_lean(system)
            polynomials = some_polynomials(prime, count, 8, 11)
            for many in (2, 4, 8):
                self.assert_lean(System(space, [chance.choice(polynomials) for _ in range(many)]))

    def test_20_equations(self):
        space = space_of(2, 8)
        names = [unknown(space, at) for at in range(8)]
        pairs = [times(space, names[at % 8], names[(at * 3 + 1) % 8]) for at in range(20)]
        for equations in (pairs, names + pairs[:12], pairs[:12] + names, [minus(space, names[0], names[1])] * 20):
            self.assert_lean(System(space, equations))
        self.assertEqual(len(lean(System(space, pairs[:12] + names))), 8)


class NeedlessTest(unittest.TestCase):
    def test_like_the_words_of_the_document(self):
        for prime, count in SMALL_SIZES:
            for system in some_systems(prime, count):
                kept = list(system.equations)
                for index in range(len(kept)):
                    self.assertIs(is_needless(system, index), plain_needless(system, index))
                self.assertEqual(system.equations, kept)

    def test_every_two_equations_of_a_tiny_space(self):
        for first, second in itertools.product(every_polynomial(2, 2), repeat=2):
            system = System(space_of(2, 2), [first, second])
            for index in range(2):
                self.assertIs(is_needless(system, index), plain_needless(system, index))

    def test_by_hand(self):
        system = read_system("numbers 3\nunknowns x y\nx\nx*y\ny - 1\nx + y - 1")
        self.assertEqual([is_needless(system, index) for index in range(4)], [True, True, True, True])
        system = read_system("numbers 3\nunknowns x y\nx\nx*y\ny - 1")
        self.assertEqual([is_needless(system, index) for index in range(3)], [True, True, False])
        system = read_system("numbers 3\nunknowns x y\nx\ny - 1")
        self.assertEqual([is_needless(system, index) for index in range(2)], [False, False])


class JudgeTest(unittest.TestCase):
    def test_every_list_of_indexes(self):
        for prime, count in SMALL_SIZES:
            for system in some_systems(prime, count):
                for indexes in lists_of_indexes(min(len(system.equations), 4)):
                    kept = list(indexes)
                    self.assertIs(judge_lean(system, indexes), plain_judge(system, indexes))
                    self.assertEqual(indexes, kept)

    def test_three_equations_of_a_tiny_space(self):
        space = space_of(2, 1)
        for equations in itertools.product(every_polynomial(2, 1), repeat=3):
            system = System(space, list(equations))
            for size in range(4):
                for indexes in itertools.product(range(-1, 4), repeat=size):
                    self.assertIs(judge_lean(system, list(indexes)), plain_judge(system, indexes))

    def test_lists_that_are_none(self):
        space = Space(3, ["x", "y", "z"])
        names = [unknown(space, at) for at in range(3)]
        system = System(space, names)
        self.assertIs(judge_lean(system, [0, 1, 2]), True)
        for wrong in ([2, 1, 0], [0, 2, 1], [1, 0, 2], [0, 0, 1, 2], [0, 1, 1, 2], [0, 1, 2, 2], [0, 1], [1, 2], [0, 2],
                      [], [0], [-1, 0, 1], [-1, 0, 1, 2], [0, 1, 2, 3], [0, 1, 3], [-3, -2, -1], [0, 1, -1], [-1],
                      [0, 1, 2, 10 ** 9], [-10 ** 9, 0, 1, 2], [3], [3, 4, 5], [0, 1, 2, 0]):
            self.assertIs(judge_lean(system, wrong), False)

    def test_one_too_many_and_one_too_few(self):
        for prime, count in SMALL_SIZES:
            for system in some_systems(prime, count):
                found = lean(system)
                for index in range(len(system.equations)):
                    if index in found:
                        wrong = [at for at in found if at != index]
                    else:
                        wrong = sorted(found + [index])
                    self.assertIs(judge_lean(system, wrong), False)

    def test_what_is_accepted_is_true(self):
        chance = random.Random(18)
        accepted = 0
        for prime, count in SMALL_SIZES:
            polynomials = some_polynomials(prime, count, 10, 12)
            for _ in range(30):
                system = System(space_of(prime, count), [chance.choice(polynomials) for _ in range(4)])
                for indexes in lists_of_indexes(4):
                    if judge_lean(system, indexes):
                        accepted += 1
                        self.assertTrue(plain_judge(system, indexes))
        self.assertGreater(accepted, 100)


class ListsTest(unittest.TestCase):
    def test_lists_are_new_and_arguments_stay(self):
        system = read_system("numbers 3\nunknowns x y\nx\ny\nx + y")
        kept = copy.deepcopy((system.equations, vars(system.space)))
        first = lean(system)
        again = list(first)
        first.append(7)
        self.assertEqual(lean(system), again)
        indexes = [1, 0]
        judge_lean(system, indexes)
        is_needless(system, 1)
        self.assertEqual(indexes, [1, 0])
        self.assertEqual((system.equations, vars(system.space)), kept)


if __name__ == "__main__":
    unittest.main()
