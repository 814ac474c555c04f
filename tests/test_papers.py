"""papers.py: points 6.1 to 6.4 of the document, and 0.2, 0.3 and 0.4 for its functions."""

import copy
import itertools
import random
import unittest

from helpers import (SIZES, SMALL_SIZES, all_tuples, every_polynomial, plain_solutions, plain_value,
                     some_polynomials, some_systems, space_of, sum_of_products, well_formed, wrong_forms, wrong_points)
from standingpowers.bases import basis, remainder, stand_over
from standingpowers.papers import Paper, accepts, paper_of
from standingpowers.polynomials import constant, minus, plus, scaled, times, unknown
from standingpowers.reading import read_polynomial
from standingpowers.spaces import Space
from standingpowers.systems import System, factors

ORDERS = ("lex", "degree")


def plain_accepts(system, paper):
    """Whether a paper is accepted, by the words of point 6.2."""
    space = system.space
    if paper.order not in ORDERS:
        return False
    for polynomial, its_factors in paper.rows:
        if polynomial == () or len(its_factors) != len(system.equations):
            return False
        if not all(well_formed(space.prime, space.count, one) for one in [polynomial] + its_factors):
            return False
        if sum_of_products(space, its_factors, system.equations) != polynomial:
            return False
    if len(set(paper.points)) < len(paper.points) or not set(paper.points) <= set(plain_solutions(system)):
        return False
    return len(paper.points) == len(stand_over(space, [row[0] for row in paper.rows], paper.order))


def changed(paper, order=None, rows=None, points=None):
    """The same paper with another order, other rows or other points."""
    return Paper(paper.order if order is None else order, paper.rows if rows is None else rows,
                 paper.points if points is None else points)


def circle():
    """x^2 + y^2 = 1 and x*y = 0 modulo 3, with the solutions (0, 1), (0, 2), (1, 0), (2, 0)."""
    space = Space(3, ["x", "y"])
    return System(space, [read_polynomial(space, "x^2 + y^2 - 1"), read_polynomial(space, "x*y")])


class PaperTest(unittest.TestCase):
    def test_fields(self):
        one = (((1, 0), 1),)
        paper = Paper("lex", [(one, [(), one]), ((), [])], [(0, 1), (0, 0)])
        self.assertEqual(paper.order, "lex")
        self.assertEqual(paper.rows, [(one, [(), one]), ((), [])])
        self.assertEqual(paper.points, [(0, 1), (0, 0)])
        self.assertIs(type(paper.rows), list)
        self.assertIs(type(paper.rows[0]), tuple)
        self.assertIs(type(paper.rows[0][1]), list)
        self.assertIs(type(paper.points), list)

    def test_an_empty_paper_of_any_order(self):
        paper = Paper("none", [], [])
        self.assertEqual((paper.order, paper.rows, paper.points), ("none", [], []))

    def test_it_copies_its_lists(self):
        system = circle()
        made = paper_of(system, "degree")
        rows = [(polynomial, list(its_factors)) for polynomial, its_factors in made.rows]
        points = list(made.points)
        kept = copy.deepcopy((rows, points))
        paper = Paper("degree", rows, points)
        self.assertEqual((rows, points), kept)
        rows[0][1][0] = constant(system.space, 1)
        rows[1][1].append(())
        rows.pop()
        points.append((0, 0))
        self.assertEqual((paper.rows, paper.points), kept)
        self.assertIs(accepts(system, paper), True)


class PaperOfTest(unittest.TestCase):
    def assert_paper(self, system, order):
        """Whether the paper is that of point 6.4."""
        space = system.space
        kept = list(system.equations)
        paper = paper_of(system, order)
        self.assertEqual(system.equations, kept)
        self.assertIs(type(paper), Paper)
        self.assertEqual(paper.order, order)
        solutions = plain_solutions(system)
        self.assertEqual(paper.points, solutions)
        self.assertEqual([row[0] for row in paper.rows], basis(space, solutions, order))
        for polynomial, its_factors in paper.rows:
            self.assertIs(type(its_factors), list)
            self.assertEqual(len(its_factors), len(kept))
            self.assertTrue(all(well_formed(space.prime, space.count, factor) for factor in its_factors))
            self.assertEqual(sum_of_products(space, its_factors, kept), polynomial)
        self.assertIs(accepts(system, paper), True)
        self.assertEqual(system.equations, kept)

    def test_all_sizes(self):
        for prime, count in SIZES:
            for system in some_systems(prime, count):
                for order in ORDERS:
                    self.assert_paper(system, order)

    def test_every_system_of_two_equations_of_a_tiny_space(self):
        for prime, count in ((2, 1), (2, 2)):
            for equations in itertools.product(every_polynomial(prime, count), repeat=2):
                for order in ORDERS:
                    self.assert_paper(System(space_of(prime, count), list(equations)), order)

    def test_every_system_of_one_equation_of_a_small_space(self):
        for prime, count in ((2, 3), (3, 1), (5, 1)):
            for equation in itertools.islice(every_polynomial(prime, count), 300):
                for order in ORDERS:
                    self.assert_paper(System(space_of(prime, count), [equation]), order)

    def test_by_hand(self):
        system = circle()
        space = system.space
        paper = paper_of(system, "lex")
        self.assertEqual(paper.points, [(0, 1), (0, 2), (1, 0), (2, 0)])
        # y^3 is y, so that nothing of y alone is in the basis.
        self.assertEqual([row[0] for row in paper.rows],
                         [read_polynomial(space, "x*y"), read_polynomial(space, "x^2 + y^2 - 1")])
        self.assert_paper(system, "lex")
        self.assert_paper(system, "degree")

    def test_without_equations_and_of_all_points(self):
        for prime, count in SIZES:
            space = space_of(prime, count)
            for equations in ([], [()], [(), ()]):
                for order in ORDERS:
                    paper = paper_of(System(space, equations), order)
                    self.assertEqual(paper.rows, [])
                    self.assertEqual(paper.points, all_tuples(prime, count))
                    self.assertIs(accepts(System(space, equations), paper), True)

    def test_without_solutions(self):
        for prime, count in SIZES:
            space = space_of(prime, count)
            x = unknown(space, 0)
            for equations in ([constant(space, 1)], [x, minus(space, x, constant(space, 1))]):
                system = System(space, equations)
                for order in ORDERS:
                    paper = paper_of(system, order)
                    self.assertEqual([row[0] for row in paper.rows], [constant(space, 1)])
                    self.assertEqual(paper.points, [])
                    self.assert_paper(system, order)

    def test_256_points_and_20_equations(self):
        space = space_of(2, 8)
        for others in ([()] * 20, [times(space, unknown(space, at % 8), unknown(space, (at * 3 + 1) % 8))
                                   for at in range(20)]):
            system = System(space, others)
            for order in ORDERS:
                self.assert_paper(system, order)
        self.assertEqual(len(paper_of(System(space, [()] * 20), "lex").points), 256)

    def test_the_orders_differ(self):
        space = space_of(2, 2)
        # The solutions are (0, 0) and (1, 1) and (1, 0): x*y + y is 0.
        system = System(space, [read_polynomial(space, "x*y + y")])
        three = System(space_of(2, 3), [read_polynomial(space_of(2, 3), "x + y*z")])
        self.assertEqual(paper_of(system, "lex").rows, paper_of(system, "degree").rows)
        self.assertNotEqual([row[0] for row in paper_of(three, "lex").rows],
                            [row[0] for row in paper_of(three, "degree").rows])


class AcceptsTest(unittest.TestCase):
    def assert_refused(self, system, paper):
        self.assertIs(accepts(system, paper), False)

    def papers(self):
        """Systems of small spaces with their papers."""
        for prime, count in SMALL_SIZES:
            for system in some_systems(prime, count):
                for order in ORDERS:
                    yield system, paper_of(system, order)

    def test_an_order_that_is_none(self):
        for system, paper in self.papers():
            for order in ("", "Lex", "deg", "degree ", " lex", "lexdegree", "plain"):
                self.assert_refused(system, changed(paper, order=order))

    def test_the_other_order(self):
        for system, paper in self.papers():
            for order in ORDERS:
                other = changed(paper, order=order)
                self.assertIs(accepts(system, other), plain_accepts(system, other))
        three = System(space_of(2, 3), [read_polynomial(space_of(2, 3), "x + y*z")])
        self.assert_refused(three, changed(paper_of(three, "lex"), order="degree"))

    def test_a_row_with_0(self):
        for system, paper in self.papers():
            row = ((), [()] * len(system.equations))
            self.assert_refused(system, changed(paper, rows=paper.rows + [row]))
            self.assert_refused(system, changed(paper, rows=[row] + paper.rows))

    def test_too_many_and_too_few_factors(self):
        for system, paper in self.papers():
            for at, (polynomial, its_factors) in enumerate(paper.rows):
                for others in (its_factors + [()], its_factors[:-1], [], its_factors * 2, [()] + its_factors):
                    rows = paper.rows[:at] + [(polynomial, others)] + paper.rows[at + 1:]
                    self.assert_refused(system, changed(paper, rows=rows))

    def test_too_many_factors_where_one_is_not_needed(self):
        space = space_of(3, 1)
        x = unknown(space, 0)
        one = constant(space, 1)
        system = System(space, [x, ()])
        self.assertIs(accepts(system, Paper("lex", [(x, [one, ()])], [(0,)])), True)
        self.assertIs(accepts(system, Paper("lex", [(x, [one, x])], [(0,)])), True)
        self.assert_refused(system, Paper("lex", [(x, [one])], [(0,)]))
        self.assert_refused(system, Paper("lex", [(x, [one, (), ()])], [(0,)]))

    def test_a_changed_factor(self):
        for system, paper in self.papers():
            one = constant(system.space, 1)
            for at, (polynomial, its_factors) in enumerate(paper.rows):
                for index, factor in enumerate(its_factors):
                    others = list(its_factors)
                    others[index] = plus(system.space, factor, one)
                    other = changed(paper, rows=paper.rows[:at] + [(polynomial, others)] + paper.rows[at + 1:])
                    # Only the number times an equation that is 0 may change without harm.
                    self.assertIs(accepts(system, other), system.equations[index] == ())

    def test_a_changed_polynomial(self):
        for system, paper in self.papers():
            space = system.space
            for at, (polynomial, its_factors) in enumerate(paper.rows):
                for other in (plus(space, polynomial, constant(space, 1)), plus(space, polynomial, polynomial),
                              unknown(space, 0)):
                    rows = paper.rows[:at] + [(other, its_factors)] + paper.rows[at + 1:]
                    self.assertIs(accepts(system, changed(paper, rows=rows)), other == polynomial)

    def test_polynomials_that_are_none_of_the_space(self):
        for system, paper in self.papers():
            for at, (polynomial, its_factors) in enumerate(paper.rows):
                for wrong in wrong_forms(system.space, polynomial):
                    rows = paper.rows[:at] + [(wrong, its_factors)] + paper.rows[at + 1:]
                    self.assert_refused(system, changed(paper, rows=rows))

    def test_factors_that_are_none_of_the_space(self):
        for system, paper in self.papers():
            for at, (polynomial, its_factors) in enumerate(paper.rows[:2]):
                for index, factor in enumerate(its_factors[:3]):
                    for wrong in wrong_forms(system.space, factor):
                        others = its_factors[:index] + [wrong] + its_factors[index + 1:]
                        rows = paper.rows[:at] + [(polynomial, others)] + paper.rows[at + 1:]
                        self.assert_refused(system, changed(paper, rows=rows))

    def test_points_that_are_none_of_the_space(self):
        for system, paper in self.papers():
            for at, point in enumerate(paper.points):
                for wrong in wrong_points(system.space.prime, point):
                    points = paper.points[:at] + [wrong] + paper.points[at + 1:]
                    self.assert_refused(system, changed(paper, points=points))

    def test_points_that_are_no_solutions(self):
        for system, paper in self.papers():
            others = [point for point in system.space.points() if point not in paper.points]
            for at in range(len(paper.points)):
                for wrong in others:
                    points = paper.points[:at] + [wrong] + paper.points[at + 1:]
                    self.assert_refused(system, changed(paper, points=points))

    def test_points_that_stand_twice(self):
        for system, paper in self.papers():
            if len(paper.points) > 1:
                self.assert_refused(system, changed(paper, points=paper.points[1:] + paper.points[-1:]))
                self.assert_refused(system, changed(paper, points=paper.points[:1] * len(paper.points)))

    def test_a_point_too_many_or_too_few(self):
        for system, paper in self.papers():
            others = [point for point in system.space.points() if point not in paper.points]
            for wrong in others + paper.points:
                self.assert_refused(system, changed(paper, points=paper.points + [wrong]))
            for wrong in paper.points:
                fewer = [point for point in paper.points if point != wrong]
                self.assert_refused(system, changed(paper, points=fewer))

    def test_the_solutions_alone_are_not_enough(self):
        for system, paper in self.papers():
            for at in range(len(paper.rows)):
                # Without one of the polynomials of a basis its leading power stands over the others.
                self.assert_refused(system, changed(paper, rows=paper.rows[:at] + paper.rows[at + 1:]))
        space = space_of(2, 2)
        x, y, one = unknown(space, 0), unknown(space, 1), constant(space, 1)
        system = System(space, [x, y])
        self.assertIs(accepts(system, Paper("lex", [(x, [one, ()]), (y, [(), one])], [(0, 0)])), True)
        self.assert_refused(system, Paper("lex", [(x, [one, ()])], [(0, 0)]))
        self.assert_refused(system, Paper("lex", [(x, [one, ()]), (times(space, x, y), [y, ()])], [(0, 0)]))
        self.assert_refused(system, Paper("lex", [], [(0, 0)]))

    def test_a_row_too_many(self):
        for system, paper in self.papers():
            space = system.space
            for one in [constant(space, 1), unknown(space, 0)] + some_polynomials(space.prime, space.count, 5)[3:]:
                found = factors(system, one)
                row = (one, [constant(space, 1)] * len(system.equations) if found is None else found)
                other = changed(paper, rows=paper.rows + [row])
                self.assertIs(accepts(system, other), plain_accepts(system, other))
                if found is None:
                    self.assert_refused(system, other)

    def test_a_wrong_row_among_right_ones(self):
        system = circle()
        space = system.space
        right = paper_of(system, "lex")
        for row in ((constant(space, 1), [(), ()]), (read_polynomial(space, "x"), [(), ()]),
                    (read_polynomial(space, "x*y"), [(), ()])):
            self.assert_refused(system, changed(right, rows=right.rows + [row]))
            self.assert_refused(system, changed(right, rows=[row] + right.rows))

    def test_no_paper_without_points_for_a_system_with_solutions(self):
        system = circle()
        one = constant(system.space, 1)
        for its_factors in ([(), ()], [one, one], [one, ()]):
            self.assert_refused(system, Paper("lex", [(one, its_factors)], []))

    def test_other_right_papers(self):
        for system, paper in self.papers():
            space = system.space
            number = space.prime - 1
            scaled_rows = [(scaled(space, one, number), [scaled(space, factor, number) for factor in its_factors])
                           for one, its_factors in paper.rows]
            for rows in (scaled_rows, scaled_rows[::-1], scaled_rows + paper.rows):
                self.assertIs(accepts(system, changed(paper, rows=rows)), True)
            self.assertIs(accepts(system, changed(paper, points=paper.points[::-1])), True)

    def test_the_paper_of_another_system(self):
        for prime, count in ((2, 2), (3, 1), (3, 2)):
            systems = some_systems(prime, count)
            for one, other in itertools.product(systems, repeat=2):
                paper = paper_of(other, "degree")
                self.assertIs(accepts(one, paper), plain_accepts(one, paper))

    def test_256_points(self):
        space = space_of(2, 8)
        system = System(space, [])
        points = space.points()
        for order in ORDERS:
            self.assertIs(accepts(system, Paper(order, [], points)), True)
            self.assert_refused(system, Paper(order, [], points[1:]))
            self.assert_refused(system, Paper(order, [], points[1:] + points[1:2]))
            self.assert_refused(system, Paper(order, [], points + points[:1]))
            self.assert_refused(system, Paper(order, [(constant(space, 1), [])], points))

    def test_256_rows(self):
        space = space_of(2, 8)
        one = constant(space, 1)
        # Every power follows from 1, and their polynomials leave nothing.
        system = System(space, [one])
        rows = [(((power, 1),), [((power, 1),)]) for power in space.powers("lex")]
        for order in ORDERS:
            self.assertIs(accepts(system, Paper(order, rows, [])), True)
            self.assert_refused(system, Paper(order, rows[1:], []))
            self.assert_refused(system, Paper(order, rows[:-1] + [(rows[-1][0], [one])], []))


class GuaranteeTest(unittest.TestCase):
    """Point 0.2 and what point 6.3 says: what is accepted is true, whoever made it."""

    def test_every_paper_of_two_rows_of_the_least_space(self):
        space = space_of(2, 1)
        everything = list(every_polynomial(2, 1))
        rows = [(one, [factor]) for one in everything for factor in everything]
        lists = [[]] + [[row] for row in rows] + [[one, other] for one in rows for other in rows[::3]]
        points = [[], [(0,)], [(1,)], [(0,), (1,)], [(1,), (0,)], [(0,), (0,)], [(2,)]]
        for equation in everything:
            system = System(space, [equation])
            for order, some_rows, some_points in itertools.product(ORDERS, lists, points):
                paper = Paper(order, some_rows, some_points)
                found = accepts(system, paper)
                self.assertIs(found, plain_accepts(system, paper))
                if found:
                    self.assert_decides(system, paper, everything)

    def test_chosen_papers_of_small_spaces(self):
        chance = random.Random(4)
        accepted = 0
        for prime, count in ((2, 2), (2, 3), (3, 1), (5, 1)):
            everything = list(itertools.islice(every_polynomial(prime, count), 3200))
            for system in some_systems(prime, count):
                following = [one for one in everything if one and factors(system, one) is not None]
                for _ in range(30):
                    chosen = chance.sample(following, min(len(following), chance.randrange(5)))
                    rows = [(one, factors(system, one)) for one in chosen]
                    solutions = system.solutions()
                    points = chance.choice([solutions, solutions[::-1], solutions[1:], all_tuples(prime, count)])
                    paper = Paper(chance.choice(ORDERS), rows, points)
                    found = accepts(system, paper)
                    self.assertIs(found, plain_accepts(system, paper))
                    if found:
                        accepted += 1
                        self.assert_decides(system, paper, chance.sample(everything, min(30, len(everything))))
        self.assertGreater(accepted, 100)

    def assert_decides(self, system, paper, polynomials):
        space = system.space
        solutions = plain_solutions(system)
        self.assertEqual(sorted(paper.points), solutions)
        divisors = [row[0] for row in paper.rows]
        for one in polynomials:
            follows = all(plain_value(space.prime, one, point) == 0 for point in solutions)
            self.assertIs(remainder(space, one, divisors, paper.order) == (), follows)


class ListsTest(unittest.TestCase):
    def test_lists_are_new_each_time(self):
        for system in some_systems(3, 2):
            first = paper_of(system, "lex")
            kept = copy.deepcopy((first.rows, first.points))
            for polynomial, its_factors in first.rows:
                its_factors.append(())
            first.rows.append(())
            first.points.append((0, 0))
            second = paper_of(system, "lex")
            self.assertEqual((second.rows, second.points), kept)
            self.assertEqual(system.solutions(), kept[1])

    def test_arguments_stay_as_they_were(self):
        for system in some_systems(2, 3):
            paper = paper_of(system, "degree")
            other = changed(paper, points=paper.points[1:], rows=paper.rows[1:])
            kept = copy.deepcopy([(one.order, one.rows, one.points, system.equations, vars(system.space))
                                  for one in (paper, other)])
            accepts(system, paper)
            accepts(system, other)
            self.assertEqual([(one.order, one.rows, one.points, system.equations, vars(system.space))
                              for one in (paper, other)], kept)


if __name__ == "__main__":
    unittest.main()
