"""tables.py: point 2.3 of the document, and 0.3 for its functions."""

import copy
import itertools
import unittest

from helpers import (SIZES, all_tuples, every_polynomial, plain_table, some_polynomials, space_of, well_formed)
from standingpowers.polynomials import constant, unknown
from standingpowers.tables import polynomial_of, table_of


class TableTest(unittest.TestCase):
    def test_values_at_the_points_in_order(self):
        for prime, count in SIZES:
            space = space_of(prime, count)
            for one in some_polynomials(prime, count, 7):
                table = table_of(space, one)
                self.assertIs(type(table), list)
                self.assertTrue(all(type(number) is int for number in table))
                self.assertEqual(table, plain_table(prime, count, one))

    def test_short_ones(self):
        self.assertEqual(table_of(space_of(3, 1), (((1,), 1),)), [0, 1, 2])
        self.assertEqual(table_of(space_of(3, 1), (((2,), 2), ((0,), 1))), [1, 0, 0])
        self.assertEqual(table_of(space_of(2, 2), (((1, 0), 1),)), [0, 0, 1, 1])
        self.assertEqual(table_of(space_of(2, 2), (((0, 1), 1),)), [0, 1, 0, 1])
        self.assertEqual(table_of(space_of(2, 2), (((1, 1), 1), ((0, 0), 1))), [1, 1, 1, 0])

    def test_constants_and_unknowns(self):
        for prime, count in SIZES:
            space = space_of(prime, count)
            for number in range(prime):
                self.assertEqual(table_of(space, constant(space, number)), [number] * prime ** count)
            for index in range(count):
                numbers = [point[index] for point in all_tuples(prime, count)]
                self.assertEqual(table_of(space, unknown(space, index)), numbers)


class PolynomialOfTest(unittest.TestCase):
    def test_every_table_of_tiny_spaces(self):
        for prime, count in ((2, 1), (2, 2), (2, 3), (3, 1), (5, 1)):
            space = space_of(prime, count)
            found = []
            for table in itertools.product(range(prime), repeat=prime ** count):
                one = polynomial_of(space, list(table))
                self.assertTrue(well_formed(prime, count, one), one)
                self.assertEqual(plain_table(prime, count, one), list(table))
                found.append(one)
            self.assertEqual(sorted(found), sorted(every_polynomial(prime, count)))

    def test_there_and_back(self):
        for prime, count in SIZES:
            space = space_of(prime, count)
            for one in some_polynomials(prime, count, 7):
                self.assertEqual(polynomial_of(space, plain_table(prime, count, one)), one)
                self.assertEqual(polynomial_of(space, table_of(space, one)), one)

    def test_0(self):
        for prime, count in SIZES:
            space = space_of(prime, count)
            self.assertEqual(table_of(space, ()), [0] * prime ** count)
            self.assertEqual(polynomial_of(space, [0] * prime ** count), ())

    def test_1_at_one_point(self):
        self.assertEqual(polynomial_of(space_of(2, 2), [0, 0, 0, 1]), (((1, 1), 1),))
        self.assertEqual(polynomial_of(space_of(2, 2), [1, 0, 0, 0]),
                         (((1, 1), 1), ((1, 0), 1), ((0, 1), 1), ((0, 0), 1)))
        self.assertEqual(polynomial_of(space_of(3, 1), [1, 0, 0]), (((2,), 2), ((0,), 1)))


class ListsTest(unittest.TestCase):
    def test_arguments_stay_as_they_were(self):
        space = space_of(3, 2)
        table = [2, 0, 1, 1, 1, 0, 2, 2, 0]
        kept = copy.deepcopy((vars(space), table))
        one = polynomial_of(space, table)
        table_of(space, one)
        self.assertEqual((vars(space), table), kept)

    def test_lists_are_new_each_time(self):
        space = space_of(3, 1)
        one = (((1,), 1),)
        first = table_of(space, one)
        first[0] = 2
        first.append(7)
        self.assertEqual(table_of(space, one), [0, 1, 2])
        self.assertIsNot(table_of(space, one), table_of(space, one))


if __name__ == "__main__":
    unittest.main()
