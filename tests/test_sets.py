"""sets.py: points 10.1 and 10.2 of the document, and 0.2, 0.3 and 0.4 for its functions."""

import copy
import itertools
import unittest

from helpers import (SIZES, all_tuples, every_polynomial, plain_solutions, plain_table, plain_value, some_systems,
                     space_of, sum_of_products, well_formed, wrong_factors, wrong_lengths, wrong_points)
from standingpowers.polynomials import constant, minus, scaled, times, unknown
from standingpowers.sets import both, compare, either, judge_compare, mark, opposite, without
from standingpowers.systems import System

SMALL = [(2, 1), (2, 2), (2, 3), (3, 1), (3, 2), (5, 1), (7, 1)]


def twenty(prime, count, many):
    """A system of 20 equations, of many of which nothing is known before."""
    space = space_of(prime, count)
    equations = [times(space, unknown(space, at % count), unknown(space, (at * many + 1) % count))
                 for at in range(20)]
    return System(space, equations)


def same_system(system):
    """Another system with the same solutions: its equations doubled or taken times -1, in another order."""
    space = system.space
    equations = [scaled(space, one, space.prime - 1) for one in system.equations[::-1]]
    return System(space_of(space.prime, space.count), equations + [()] + equations[:2])


class MarkTest(unittest.TestCase):
    def test_all_sizes(self):
        for prime, count in SIZES:
            for system in some_systems(prime, count):
                found = mark(system)
                self.assertTrue(well_formed(prime, count, found))
                solutions = plain_solutions(system)
                for point in all_tuples(prime, count)[::3] + solutions[:20]:
                    self.assertEqual(plain_value(prime, found, point), 0 if point in solutions else 1)

    def test_by_hand(self):
        space = space_of(3, 1)
        self.assertEqual(mark(System(space, [])), ())
        self.assertEqual(mark(System(space, [constant(space, 2)])), (((0,), 1),))
        self.assertEqual(mark(System(space, [unknown(space, 0)])), (((2,), 1),))

    def test_every_system_of_tiny_spaces(self):
        for prime, count in ((2, 2), (3, 1)):
            for equation in every_polynomial(prime, count):
                system = System(space_of(prime, count), [equation])
                wanted = [0 if number == 0 else 1 for number in plain_table(prime, count, equation)]
                self.assertEqual(plain_table(prime, count, mark(system)), wanted)


class JoinTest(unittest.TestCase):
    def assert_joined(self, one, other):
        points = one.space.points()
        firsts, seconds = plain_solutions(one), plain_solutions(other)
        kept = copy.deepcopy((one.equations, other.equations))
        self.assert_system(one, both(one, other), [point for point in firsts if point in seconds])
        self.assert_system(one, either(one, other), [at for at in points if at in firsts or at in seconds])
        self.assert_system(one, without(one, other), [point for point in firsts if point not in seconds])
        self.assert_system(one, without(other, one), [point for point in seconds if point not in firsts])
        self.assert_system(one, opposite(one), [point for point in points if point not in firsts])
        self.assertEqual((one.equations, other.equations), kept)

    def assert_system(self, one, found, solutions):
        self.assertIs(type(found), System)
        self.assertEqual((found.space.prime, found.space.names), (one.space.prime, one.space.names))
        self.assertLessEqual(len(found.equations), 20)
        self.assertTrue(all(well_formed(one.space.prime, one.space.count, polynomial)
                            for polynomial in found.equations))
        self.assertEqual(found.solutions(), solutions)

    def test_all_pairs_of_small_spaces(self):
        for prime, count in SMALL:
            for one, other in itertools.product(some_systems(prime, count), repeat=2):
                self.assert_joined(one, other)

    def test_greatest_spaces(self):
        for prime, count in ((2, 8), (3, 5), (5, 3), (7, 2)):
            systems = some_systems(prime, count)
            for at in range(0, len(systems), 2):
                self.assert_joined(systems[at], systems[at - 5])

    def test_all_points_and_none(self):
        for prime, count in SIZES:
            space = space_of(prime, count)
            everything, nothing = System(space, []), System(space, [constant(space, 1)])
            points = all_tuples(prime, count)
            self.assertEqual(opposite(everything).solutions(), [])
            self.assertEqual(opposite(nothing).solutions(), points)
            self.assertEqual(both(everything, everything).solutions(), points)
            self.assertEqual(both(everything, nothing).solutions(), [])
            self.assertEqual(either(nothing, nothing).solutions(), [])
            self.assertEqual(either(everything, nothing).solutions(), points)
            self.assertEqual(without(everything, everything).solutions(), [])
            self.assertEqual(without(everything, nothing).solutions(), points)
            self.assertEqual(without(nothing, everything).solutions(), [])

    def test_systems_of_20_equations(self):
        for prime, count in ((2, 8), (3, 5), (2, 3)):
            self.assert_joined(twenty(prime, count, 3), twenty(prime, count, 2))
            joined = both(twenty(prime, count, 3), twenty(prime, count, 2))
            self.assert_joined(joined, either(joined, twenty(prime, count, 1)))

    def test_a_system_with_itself(self):
        for system in some_systems(3, 2):
            self.assert_joined(system, system)


class CompareTest(unittest.TestCase):
    def assert_answer(self, one, other):
        kept = copy.deepcopy((one.equations, other.equations))
        answer = compare(one, other)
        firsts, seconds = plain_solutions(one), plain_solutions(other)
        self.assertIs(type(answer), tuple)
        if firsts == seconds:
            self.assertEqual((answer[0], len(answer)), ("same", 3))
            self.assert_shown(one, other.equations, answer[1])
            self.assert_shown(other, one.equations, answer[2])
        else:
            self.assertEqual((answer[0], len(answer)), ("unlike", 2))
            self.assertIs(type(answer[1]), tuple)
            self.assertEqual((answer[1] in firsts) + (answer[1] in seconds), 1)
        self.assertIs(judge_compare(one, other, answer), True)
        self.assertEqual((one.equations, other.equations), kept)

    def assert_shown(self, system, polynomials, lists):
        self.assertIs(type(lists), list)
        self.assertEqual(len(lists), len(polynomials))
        for polynomial, chosen in zip(polynomials, lists):
            self.assertIs(type(chosen), list)
            self.assertEqual(len(chosen), len(system.equations))
            self.assertTrue(all(well_formed(system.space.prime, system.space.count, one) for one in chosen))
            self.assertEqual(sum_of_products(system.space, chosen, system.equations), polynomial)

    def test_all_pairs_of_small_spaces(self):
        for prime, count in SMALL:
            for one, other in itertools.product(some_systems(prime, count), repeat=2):
                self.assert_answer(one, other)

    def test_systems_with_the_same_solutions(self):
        for prime, count in SIZES:
            for system in some_systems(prime, count):
                others = [same_system(system), System(system.space, [mark(system)]), opposite(opposite(system))]
                for other in others:
                    self.assertEqual(compare(system, other)[0], "same")
                    self.assert_answer(system, other)

    def test_every_pair_of_a_tiny_space(self):
        space = space_of(2, 2)
        for first, second in itertools.product(every_polynomial(2, 2), repeat=2):
            self.assert_answer(System(space, [first]), System(space, [second]))

    def test_one_point_more(self):
        for prime, count in SIZES:
            space = space_of(prime, count)
            for point in ((0,) * count, (prime - 1,) * count):
                shifted = [minus(space, unknown(space, at), constant(space, point[at])) for at in range(count)]
                self.assertEqual(compare(System(space, shifted), System(space, [constant(space, 1)])),
                                 ("unlike", point))
                self.assertEqual(compare(System(space, []), opposite(System(space, shifted))), ("unlike", point))

    def test_without_equations_and_without_solutions(self):
        for prime, count in SMALL:
            space = space_of(prime, count)
            nothing = System(space, [constant(space, 1)])
            self.assertEqual(compare(System(space, []), System(space, [])), ("same", [], []))
            self.assertEqual(compare(System(space, []), System(space, [()])), ("same", [[]], []))
            self.assertEqual(compare(nothing, System(space, []))[0], "unlike")
            self.assert_answer(nothing, System(space, [constant(space, 1), unknown(space, 0)]))

    def test_20_equations(self):
        one, other = twenty(2, 8, 3), twenty(2, 8, 2)
        self.assert_answer(one, other)
        self.assert_answer(one, System(one.space, one.equations[::-1]))


class JudgeTest(unittest.TestCase):
    def cases(self):
        """Pairs of systems of small spaces with the same solutions, and the answers."""
        for prime, count in SMALL:
            for system in some_systems(prime, count):
                other = same_system(system)
                yield system, other, compare(system, other)

    def assert_wrong(self, one, other, answer):
        self.assertIs(judge_compare(one, other, answer), False)

    def test_every_answer_of_a_tiny_space(self):
        space = space_of(2, 1)
        everything = list(every_polynomial(2, 1))
        for first, second, there, back in itertools.product(everything, repeat=4):
            one, other = System(space, [first]), System(space, [second])
            right = times(space, there, first) == second and times(space, back, second) == first
            self.assertIs(judge_compare(one, other, ("same", [[there]], [[back]])), right)
            if right:
                self.assertEqual(plain_solutions(one), plain_solutions(other))

    def test_points(self):
        for prime, count in SMALL:
            for one, other in itertools.product(some_systems(prime, count), repeat=2):
                firsts, seconds = plain_solutions(one), plain_solutions(other)
                for point in all_tuples(prime, count)[:10]:
                    right = (point in firsts) != (point in seconds)
                    self.assertIs(judge_compare(one, other, ("unlike", point)), right)
                    if right:
                        for wrong in wrong_points(prime, point):
                            self.assert_wrong(one, other, ("unlike", wrong))

    def test_a_word_that_is_none(self):
        space = space_of(2, 1)
        one, other = System(space, [()]), System(space, [unknown(space, 0)])
        self.assertIs(judge_compare(one, other, ("unlike", (1,))), True)
        for word in ("", "Unlike", "like"):
            self.assert_wrong(one, other, (word, (1,)))

    def test_same_is_wrong_for_others(self):
        for prime, count in SMALL:
            space = space_of(prime, count)
            one, nothing = System(space, [()]), System(space, [constant(space, 1)])
            for chosen in ((), constant(space, 1), unknown(space, 0)):
                for others in ((), constant(space, 1), unknown(space, 0)):
                    self.assert_wrong(one, nothing, ("same", [[chosen]], [[others]]))
                    self.assert_wrong(nothing, one, ("same", [[chosen]], [[others]]))

    def test_only_one_way(self):
        space = space_of(3, 2)
        x, y, one = unknown(space, 0), unknown(space, 1), constant(space, 1)
        narrow, wide = System(space, [x, y]), System(space, [x])
        self.assert_wrong(narrow, wide, ("same", [[one, ()]], [[one], [()]]))
        self.assert_wrong(narrow, wide, ("same", [[one, ()]], []))
        self.assert_wrong(narrow, wide, ("same", [[one, ()]], [[one]]))
        self.assert_wrong(wide, narrow, ("same", [[one], [()]], [[one, ()]]))
        self.assert_wrong(wide, narrow, ("same", [], [[one, ()]]))
        self.assertIs(judge_compare(narrow, narrow, ("same", [[one, ()], [(), one]], [[one, ()], [(), one]])), True)
        self.assert_wrong(narrow, narrow, ("same", [[one, ()], [(), one]], [[(), one], [one, ()]]))
        self.assert_wrong(narrow, narrow, ("same", [[(), one], [one, ()]], [[one, ()], [(), one]]))

    def test_the_lists_change_places(self):
        space = space_of(3, 1)
        x = unknown(space, 0)
        one, other = System(space, [x]), System(space, [(((1,), 2),), ()])
        two = constant(space, 2)
        self.assertIs(judge_compare(one, other, ("same", [[two], [()]], [[two, ()]])), True)
        self.assert_wrong(one, other, ("same", [[two, ()]], [[two], [()]]))
        self.assertIs(judge_compare(other, one, ("same", [[two, ()]], [[two], [()]])), True)

    def test_too_many_and_too_few_lists_and_factors(self):
        for one, other, (kind, there, back) in self.cases():
            self.assertIs(judge_compare(one, other, ("same", there, back)), True)
            for wrong in wrong_lengths(there, len(one.equations)):
                self.assert_wrong(one, other, ("same", wrong, back))
            for wrong in wrong_lengths(back, len(other.equations)):
                self.assert_wrong(one, other, ("same", there, wrong))

    def test_factors_that_are_none_of_the_space(self):
        for one, other, (kind, there, back) in self.cases():
            for wrong in wrong_factors(one.space, there):
                self.assert_wrong(one, other, ("same", wrong, back))
            for wrong in wrong_factors(one.space, back):
                self.assert_wrong(one, other, ("same", there, wrong))

    def test_changed_factors(self):
        for one, other, (kind, there, back) in self.cases():
            for at, chosen in enumerate(there):
                for index in range(len(chosen)):
                    wrong = [list(row) for row in there]
                    wrong[at][index] = minus(one.space, wrong[at][index], constant(one.space, 1))
                    right = one.equations[index] == ()
                    self.assertIs(judge_compare(one, other, ("same", wrong, back)), right)


class ListsTest(unittest.TestCase):
    def test_lists_are_new_each_time(self):
        for one in some_systems(3, 1):
            other = same_system(one)
            kept = copy.deepcopy((one.equations, other.equations))
            for make in (both, either, without):
                found = make(one, other)
                solutions = found.solutions()
                found.equations.clear()
                found.equations.append(constant(one.space, 1))
                self.assertEqual(make(one, other).solutions(), solutions)
            opposite(one).equations.clear()
            answer = compare(one, other)
            for lists in answer[1:]:
                for chosen in lists:
                    chosen.append(())
                lists.append([])
            self.assertIs(judge_compare(one, other, compare(one, other)), True)
            self.assertEqual((one.equations, other.equations), kept)

    def test_arguments_stay_as_they_were(self):
        for one in some_systems(2, 2):
            other = same_system(one)
            answer = compare(one, other)
            kept = copy.deepcopy((answer, one.equations, other.equations, vars(one.space)))
            judge_compare(one, other, answer)
            judge_compare(one, other, ("unlike", (0, 0)))
            self.assertEqual((answer, one.equations, other.equations, vars(one.space)), kept)


if __name__ == "__main__":
    unittest.main()
