"""shadows.py: points 8.1 and 8.2 of the document, and 0.3 and 0.4 for its functions."""

import copy
import itertools
import unittest

from helpers import (NAMES, SIZES, SMALL_SIZES, all_tuples, every_polynomial, plain_solutions, some_polynomials,
                     some_systems, space_of, well_formed, wrong_points)
from standingpowers.bases import basis
from standingpowers.polynomials import constant, unknown
from standingpowers.reading import read_polynomial, read_system
from standingpowers.shadows import lift, shadow, shadow_basis
from standingpowers.spaces import Space
from standingpowers.systems import System


def some_name_lists(count):
    """One unknown, all of them, in turn and turned round, and some in other orders."""
    names = NAMES[:count]
    found = [names[:1], names[-1:], names, names[::-1], names[1:] + names[:1]]
    if count > 2:
        found += [[names[2], names[0]], [names[1], names[2]], names[1:], names[:0:-1]]
    return found


def plain_shadow(system, names, solutions):
    """The shadow by the words of point 8.1."""
    places = [system.space.names.index(name) for name in names]
    return sorted({tuple(point[place] for place in places) for point in solutions})


class ShadowTest(unittest.TestCase):
    def test_all_sizes(self):
        for prime, count in SIZES:
            for system in some_systems(prime, count):
                solutions = plain_solutions(system)
                for names in some_name_lists(count):
                    kept = list(names)
                    found = shadow(system, names)
                    self.assertEqual(names, kept)
                    self.assertIs(type(found), list)
                    self.assertTrue(all(type(point) is tuple for point in found))
                    self.assertEqual(found, plain_shadow(system, names, solutions))

    def test_every_list_of_names(self):
        for prime, count in ((2, 4), (3, 3)):
            for system in some_systems(prime, count):
                solutions = plain_solutions(system)
                for many in range(1, count + 1):
                    for names in itertools.permutations(NAMES[:count], many):
                        self.assertEqual(shadow(system, list(names)), plain_shadow(system, list(names), solutions))

    def test_by_hand(self):
        system = read_system("numbers 3\nunknowns x y z\nx + y\nz = x^2 + 1")
        self.assertEqual(system.solutions(), [(0, 0, 1), (1, 2, 2), (2, 1, 2)])
        self.assertEqual(shadow(system, ["z"]), [(1,), (2,)])
        self.assertEqual(shadow(system, ["x"]), [(0,), (1,), (2,)])
        self.assertEqual(shadow(system, ["y", "x"]), [(0, 0), (1, 2), (2, 1)])
        self.assertEqual(shadow(system, ["z", "y"]), [(1, 0), (2, 1), (2, 2)])
        self.assertEqual(shadow(system, ["x", "y", "z"]), system.solutions())
        self.assertEqual(shadow(system, ["z", "x", "y"]), [(1, 0, 0), (2, 1, 2), (2, 2, 1)])

    def test_all_points_and_none(self):
        for prime, count in SIZES:
            space = space_of(prime, count)
            for names in some_name_lists(count):
                self.assertEqual(shadow(System(space, []), names), all_tuples(prime, len(names)))
                self.assertEqual(shadow(System(space, [constant(space, 1)]), names), [])


class LiftTest(unittest.TestCase):
    def assert_lifts(self, system, names, points):
        places = [system.space.names.index(name) for name in names]
        solutions = plain_solutions(system)
        wanted = plain_shadow(system, names, solutions)
        for point in points:
            found = lift(system, names, point)
            if point in wanted:
                self.assertIs(type(found), tuple)
                self.assertIn(found, solutions)
                self.assertEqual(tuple(found[place] for place in places), point)
            else:
                self.assertIsNone(found)

    def test_all_points_of_small_spaces(self):
        for prime, count in SMALL_SIZES:
            for system in some_systems(prime, count):
                for names in some_name_lists(count):
                    kept = list(names)
                    self.assert_lifts(system, names, all_tuples(prime, len(names)))
                    self.assertEqual(names, kept)

    def test_greater_spaces(self):
        for prime, count in SIZES:
            for system in some_systems(prime, count)[5:]:
                for names in some_name_lists(count)[:4]:
                    self.assert_lifts(system, names, all_tuples(prime, len(names))[::37])

    def test_by_hand(self):
        system = read_system("numbers 3\nunknowns x y z\nx + y\nz = x^2 + 1")
        self.assertEqual(lift(system, ["y", "z"], (2, 2)), (1, 2, 2))
        self.assertIn(lift(system, ["z"], (2,)), [(1, 2, 2), (2, 1, 2)])
        self.assertIsNone(lift(system, ["z"], (0,)))
        self.assertIsNone(lift(system, ["y", "z"], (2, 1)))
        self.assertEqual(lift(system, ["z", "y", "x"], (1, 0, 0)), (0, 0, 1))

    def test_without_solutions(self):
        space = space_of(2, 3)
        system = System(space, [constant(space, 1)])
        for names in some_name_lists(3):
            for point in all_tuples(2, len(names)):
                self.assertIsNone(lift(system, names, point))

    def test_points_that_are_none(self):
        system = System(space_of(3, 2), [])
        for names in (["x"], ["y", "x"]):
            for point in all_tuples(3, len(names)):
                for wrong in wrong_points(3, point):
                    self.assertIsNone(lift(system, names, wrong))


class ShadowBasisTest(unittest.TestCase):
    def test_it_is_the_basis_of_the_shadow(self):
        for prime, count in SIZES:
            names = NAMES[:count]
            for system in some_systems(prime, count):
                space = system.space
                whole = basis(space, system.solutions(), "lex")
                for k in range(count):
                    kept = list(whole)
                    found = shadow_basis(space, whole, k)
                    self.assertEqual(whole, kept)
                    self.assertIs(type(found), list)
                    wanted = basis(Space(prime, names[k:]), shadow(system, names[k:]), "lex")
                    self.assertEqual(found, wanted)

    def test_any_list_by_its_words(self):
        for prime, count in SMALL_SIZES:
            space = space_of(prime, count)
            given = list(itertools.islice(every_polynomial(prime, count), 200)) + some_polynomials(prime, count, 12)
            for k in range(count):
                wanted = []
                for one in given:
                    if all(power[:k] == (0,) * k for power, number in one):
                        wanted.append(tuple((power[k:], number) for power, number in one))
                found = shadow_basis(space, given, k)
                self.assertEqual(found, wanted)
                self.assertTrue(all(well_formed(prime, count - k, one) for one in found))

    def test_by_hand(self):
        space = Space(3, ["x", "y", "z"])
        given = [read_polynomial(space, text) for text in ("z + 1", "x + z", "0", "y*z^2", "2", "y^2 + x", "z + 1")]
        self.assertEqual(shadow_basis(space, given, 0), given)
        rest = Space(3, ["y", "z"])
        self.assertEqual(shadow_basis(space, given, 1),
                         [read_polynomial(rest, text) for text in ("z + 1", "0", "y*z^2", "2", "z + 1")])
        last = Space(3, ["z"])
        self.assertEqual(shadow_basis(space, given, 2),
                         [read_polynomial(last, text) for text in ("z + 1", "0", "2", "z + 1")])

    def test_all_points_and_none(self):
        for prime, count in SIZES:
            space = space_of(prime, count)
            for k in range(count):
                self.assertEqual(shadow_basis(space, basis(space, space.points(), "lex"), k), [])
                self.assertEqual(shadow_basis(space, basis(space, [], "lex"), k), [(((0,) * (count - k), 1),)])

    def test_no_polynomials(self):
        self.assertEqual(shadow_basis(space_of(2, 3), [], 0), [])
        self.assertEqual(shadow_basis(space_of(2, 3), [], 2), [])


class ListsTest(unittest.TestCase):
    def test_lists_are_new_each_time(self):
        space = space_of(2, 3)
        system = System(space, [unknown(space, 0)])
        first = shadow(system, ["z", "y", "x"])
        kept = list(first)
        first.clear()
        self.assertEqual(shadow(system, ["z", "y", "x"]), kept)
        whole = shadow(system, ["x", "y", "z"])
        whole.clear()
        self.assertEqual(len(system.solutions()), 4)
        polynomials = [unknown(space, 2), constant(space, 1)]
        found = shadow_basis(space, polynomials, 0)
        found.clear()
        self.assertEqual(polynomials, [unknown(space, 2), constant(space, 1)])

    def test_arguments_stay_as_they_were(self):
        for system in some_systems(2, 3):
            names = ["z", "x"]
            polynomials = basis(system.space, system.solutions(), "lex")
            kept = copy.deepcopy((names, polynomials, system.equations, vars(system.space)))
            shadow(system, names)
            lift(system, names, (0, 1))
            shadow_basis(system.space, polynomials, 1)
            self.assertEqual((names, polynomials, system.equations, vars(system.space)), kept)


if __name__ == "__main__":
    unittest.main()
