"""polynomials.py: points 2.1, 2.2, 2.4 and 2.5 of the document, and 0.3 for its functions."""

import copy
import itertools
import time
import unittest

from helpers import (NAMES, SIZES, SMALL_SIZES, all_tuples, every_polynomial, plain_table, plain_value,
                     some_polynomials, space_of, well_formed)
from standingpowers.polynomials import (constant, degree, is_polynomial, leading, minus, number_of, plus, raised,
                                        replaced, scaled, speaks_of, times, unknown, value)
from standingpowers.spaces import Space

BILLION = 10 ** 9


class PolynomialTest(unittest.TestCase):
    """Ways to compare answers with the values at each point."""

    def assert_table(self, prime, count, thing, table):
        self.assertTrue(well_formed(prime, count, thing), thing)
        self.assertEqual(plain_table(prime, count, thing), [number % prime for number in table])


class IsPolynomialTest(unittest.TestCase):
    def test_polynomials(self):
        for prime, count in SIZES:
            space = space_of(prime, count)
            for one in some_polynomials(prime, count, 8):
                self.assertIs(is_polynomial(space, one), True)

    def test_short_ones(self):
        space = space_of(3, 2)
        self.assertIs(is_polynomial(space, ()), True)
        self.assertIs(is_polynomial(space, (((0, 0), 1),)), True)
        self.assertIs(is_polynomial(space, (((2, 2), 2), ((2, 0), 1), ((0, 1), 1))), True)

    def test_order_of_the_pairs(self):
        space = space_of(3, 2)
        pairs = (((2, 0), 1), ((1, 2), 2), ((0, 1), 1))
        for thing in itertools.permutations(pairs):
            self.assertIs(is_polynomial(space, thing), thing == pairs, thing)
        # Descending by degree is another order.
        self.assertIs(is_polynomial(space, (((0, 2), 1), ((1, 0), 1))), False)

    def test_a_power_twice(self):
        space = space_of(3, 2)
        self.assertIs(is_polynomial(space, (((1, 0), 1), ((1, 0), 1))), False)
        self.assertIs(is_polynomial(space, (((1, 0), 2), ((1, 0), 1))), False)
        self.assertIs(is_polynomial(space, (((2, 0), 1), ((1, 0), 1), ((1, 0), 2), ((0, 0), 1))), False)

    def test_numbers(self):
        for prime in (2, 3, 5, 7):
            space = space_of(prime, 2)
            for number in range(-prime - 1, 2 * prime + 2):
                right = 0 < number < prime
                self.assertIs(is_polynomial(space, (((1, 0), number),)), right, number)
                self.assertIs(is_polynomial(space, (((1, 1), 1), ((1, 0), number))), right, number)
                self.assertIs(is_polynomial(space, (((1, 1), number), ((1, 0), 1))), right, number)

    def test_exponents(self):
        for prime in (2, 3, 5, 7):
            space = space_of(prime, 2)
            for exponent in range(-prime - 1, 2 * prime + 2):
                right = 0 <= exponent < prime
                self.assertIs(is_polynomial(space, (((exponent, 0), 1),)), right, exponent)
                self.assertIs(is_polynomial(space, (((0, exponent), 1),)), right, exponent)
        self.assertIs(is_polynomial(space_of(3, 1), (((2,), 1), ((-1,), 1))), False)

    def test_number_of_exponents(self):
        space = space_of(3, 2)
        for power in ((), (1,), (0,), (1, 0, 0), (0, 0, 0), (1, 1, 1, 1)):
            self.assertIs(is_polynomial(space, ((power, 1),)), False, power)
            self.assertIs(is_polynomial(space, (((2, 2), 1), (power, 1))), False, power)

    def test_all_pairs_of_pairs_of_a_tiny_space(self):
        space = space_of(2, 1)
        pairs = [(power, number) for power in ((-1,), (0,), (1,), (2,), (), (0, 0)) for number in (-1, 0, 1, 2)]
        for length in (0, 1, 2, 3):
            for thing in itertools.product(pairs, repeat=length):
                self.assertIs(is_polynomial(space, thing), well_formed(2, 1, thing), thing)


class MakingTest(PolynomialTest):
    def test_constant(self):
        for prime, count in SIZES:
            space = space_of(prime, count)
            for number in list(range(0, 3 * prime)) + [BILLION - 1, BILLION, BILLION + 1, BILLION * BILLION]:
                rest = number % prime
                expected = (((0,) * count, rest),) if rest else ()
                self.assertEqual(constant(space, number), expected)

    def test_unknown(self):
        for prime, count in SIZES:
            space = space_of(prime, count)
            for index in range(count):
                found = unknown(space, index)
                self.assert_table(prime, count, found, [point[index] for point in all_tuples(prime, count)])
        self.assertEqual(unknown(space_of(2, 3), 1), (((0, 1, 0), 1),))
        self.assertEqual(unknown(space_of(7, 1), 0), (((1,), 1),))


class SumsAndProductsTest(PolynomialTest):
    def assert_all_operations(self, prime, count, one, other):
        space = space_of(prime, count)
        tables = list(zip(plain_table(prime, count, one), plain_table(prime, count, other)))
        self.assert_table(prime, count, plus(space, one, other), [first + second for first, second in tables])
        self.assert_table(prime, count, minus(space, one, other), [first - second for first, second in tables])
        self.assert_table(prime, count, times(space, one, other), [first * second for first, second in tables])

    def test_every_pair_of_tiny_spaces(self):
        for prime, count in ((2, 1), (2, 2), (3, 1)):
            everything = list(every_polynomial(prime, count))
            for one, other in itertools.product(everything, repeat=2):
                self.assert_all_operations(prime, count, one, other)

    def test_small_spaces(self):
        for prime, count in SMALL_SIZES:
            for one, other in itertools.product(some_polynomials(prime, count, 9), repeat=2):
                self.assert_all_operations(prime, count, one, other)

    def test_greatest_spaces(self):
        for prime, count in ((2, 8), (3, 5), (5, 3), (7, 2)):
            for one, other in itertools.combinations(some_polynomials(prime, count, 6), 2):
                self.assert_all_operations(prime, count, one, other)

    def test_thin_times_full(self):
        # Around the number of pairs at which the way of multiplying changes.
        for prime, count in ((2, 5), (3, 3), (7, 2)):
            space = space_of(prime, count)
            powers = all_tuples(prime, count)[::-1]
            full = tuple((power, prime - 1) for power in powers)
            table = plain_table(prime, count, full)
            for many in range(0, 8):
                thin = full[:many]
                products = [first * second for first, second in zip(table, plain_table(prime, count, thin))]
                self.assert_table(prime, count, times(space, full, thin), products)
                self.assert_table(prime, count, times(space, thin, full), products)

    def test_lessened_exponents(self):
        for prime in (2, 3, 5, 7):
            space = space_of(prime, 1)
            for low, high in itertools.product(range(prime), repeat=2):
                total = low + high
                expected = total if total < prime else total - (prime - 1)
                found = times(space, (((low,), 1),), (((high,), 1),))
                self.assertEqual(found, (((expected,), 1),), (prime, low, high))

    def test_an_exponent_p_becomes_1(self):
        self.assertEqual(times(space_of(2, 1), (((1,), 1),), (((1,), 1),)), (((1,), 1),))
        self.assertEqual(times(space_of(3, 2), (((2, 1), 1),), (((1, 2), 2),)), (((1, 1), 2),))
        self.assertEqual(times(space_of(5, 1), (((4,), 2),), (((4,), 3),)), (((4,), 1),))

    def test_pairs_that_add_up_to_0(self):
        space = space_of(3, 1)
        one = (((2,), 1), ((0,), 2))
        self.assertEqual(plus(space, one, (((2,), 2), ((0,), 1))), ())
        self.assertEqual(plus(space, one, (((2,), 2),)), (((0,), 2),))
        self.assertEqual(minus(space, one, one), ())
        # (1 + x) * (2 + x) is x ** 2 + 2 modulo 3.
        self.assertEqual(times(space, (((1,), 1), ((0,), 1)), (((1,), 1), ((0,), 2))), one)

    def test_minus_is_not_the_other_way_round(self):
        space = space_of(5, 1)
        self.assertEqual(minus(space, (((1,), 1),), (((0,), 1),)), (((1,), 1), ((0,), 4)))
        self.assertEqual(minus(space, (), (((1,), 1),)), (((1,), 4),))

    def test_scaled(self):
        for prime, count in SMALL_SIZES:
            space = space_of(prime, count)
            for one in some_polynomials(prime, count, 6):
                table = plain_table(prime, count, one)
                for number in list(range(0, 2 * prime + 1)) + [BILLION - 1, BILLION, BILLION + 7]:
                    self.assert_table(prime, count, scaled(space, one, number), [number * at for at in table])

    def test_scaled_by_0(self):
        space = space_of(7, 1)
        for number in (0, 7, 14, 7 * 10 ** 8):
            self.assertEqual(scaled(space, (((3,), 2), ((0,), 1)), number), ())

    def test_raised(self):
        for prime, count in SMALL_SIZES:
            space = space_of(prime, count)
            for one in some_polynomials(prime, count, 6):
                table = plain_table(prime, count, one)
                exponents = list(range(0, 2 * prime + 2)) + list(range(BILLION - prime, BILLION + 2))
                for exponent in exponents:
                    powers = [pow(at, exponent, prime) for at in table]
                    self.assert_table(prime, count, raised(space, one, exponent), powers)

    def test_raised_to_0_is_1(self):
        for prime, count in SMALL_SIZES:
            space = space_of(prime, count)
            for one in some_polynomials(prime, count, 5):
                self.assertEqual(raised(space, one, 0), constant(space, 1))

    def test_raised_to_1_is_the_polynomial(self):
        for prime, count in SIZES:
            for one in some_polynomials(prime, count, 6):
                self.assertEqual(raised(space_of(prime, count), one, 1), one)

    def test_great_numbers_take_a_short_time(self):
        began = time.monotonic()
        for prime, count in ((2, 8), (3, 5), (5, 3), (7, 2)):
            space = space_of(prime, count)
            for one in some_polynomials(prime, count, 5):
                high = raised(space, one, BILLION)
                self.assertEqual(high, raised(space, one, (BILLION - 1) % (prime - 1) + 1))
                self.assertEqual(scaled(space, one, BILLION), scaled(space, one, BILLION % prime))
        self.assertLess(time.monotonic() - began, 20)


class ValuesTest(unittest.TestCase):
    def test_value(self):
        for prime, count in SMALL_SIZES:
            space = space_of(prime, count)
            for one in some_polynomials(prime, count, 10):
                for point in all_tuples(prime, count):
                    found = value(space, one, point)
                    self.assertIs(type(found), int)
                    self.assertEqual(found, plain_value(prime, one, point))

    def test_value_in_great_spaces(self):
        for prime, count in ((2, 8), (3, 5), (5, 3), (7, 2)):
            space = space_of(prime, count)
            for one in some_polynomials(prime, count, 5):
                for point in all_tuples(prime, count)[::11]:
                    self.assertEqual(value(space, one, point), plain_value(prime, one, point))

    def test_value_with_exponent_0_at_0(self):
        space = space_of(3, 2)
        self.assertEqual(value(space, (((0, 1), 2), ((0, 0), 2)), (0, 0)), 2)
        self.assertEqual(value(space, (((0, 1), 2), ((0, 0), 2)), (0, 1)), 1)
        self.assertEqual(value(space, (), (1, 1)), 0)

    def test_number_of(self):
        for prime, count in SMALL_SIZES:
            for one in some_polynomials(prime, count, 8):
                numbers = dict(one)
                for power in all_tuples(prime, count):
                    self.assertEqual(number_of(one, power), numbers.get(power, 0))

    def test_number_of_a_power_that_it_has_not(self):
        one = (((2, 1), 4), ((0, 0), 3))
        self.assertEqual(number_of(one, (2, 1)), 4)
        self.assertEqual(number_of(one, (0, 0)), 3)
        self.assertEqual(number_of(one, (1, 2)), 0)
        self.assertEqual(number_of((), (0, 0)), 0)


class PowersOfPolynomialsTest(unittest.TestCase):
    def test_degree(self):
        self.assertEqual(degree(()), -1)
        self.assertEqual(degree((((0, 0), 2),)), 0)
        self.assertEqual(degree((((1, 0), 1), ((0, 2), 1))), 2)
        for prime, count in SIZES:
            for one in some_polynomials(prime, count, 8):
                self.assertEqual(degree(one), max([sum(power) for power, number in one] + [-1]))

    def test_leading(self):
        one = (((1, 0, 0), 1), ((0, 2, 0), 1), ((0, 1, 1), 1), ((0, 0, 2), 2))
        self.assertEqual(leading(one, "lex"), (1, 0, 0))
        self.assertEqual(leading(one, "degree"), (0, 2, 0))
        self.assertEqual(leading((((0, 0), 1),), "lex"), (0, 0))
        self.assertEqual(leading((((0, 0), 1),), "degree"), (0, 0))

    def test_leading_is_the_greatest(self):
        for prime, count in SIZES:
            for one in some_polynomials(prime, count, 8):
                powers = [power for power, number in one]
                if powers:
                    self.assertEqual(leading(one, "lex"), max(powers))
                    self.assertEqual(leading(one, "degree"), max(powers, key=lambda power: (sum(power), power)))

    def test_speaks_of(self):
        space = space_of(3, 3)
        self.assertEqual(speaks_of(space, ()), [])
        self.assertEqual(speaks_of(space, (((0, 0, 0), 1),)), [])
        self.assertEqual(speaks_of(space, (((1, 0, 2), 1), ((1, 0, 0), 1))), [0, 2])
        self.assertEqual(speaks_of(space, (((0, 2, 0), 1), ((0, 0, 1), 1))), [1, 2])
        self.assertEqual(speaks_of(space, (((1, 0, 0), 1), ((0, 2, 0), 1), ((0, 0, 1), 1))), [0, 1, 2])
        for prime, count in SIZES:
            for one in some_polynomials(prime, count, 8):
                expected = sorted({at for power, number in one for at in range(count) if power[at]})
                found = speaks_of(space_of(prime, count), one)
                self.assertIs(type(found), list)
                self.assertEqual(found, expected)


class ReplacedTest(PolynomialTest):
    def test_against_the_values(self):
        pairs = [((2, 1), (2, 3)), ((2, 3), (2, 1)), ((2, 4), (2, 4)), ((3, 1), (3, 3)), ((3, 3), (3, 1)),
                 ((3, 2), (3, 3)), ((5, 2), (5, 1)), ((5, 1), (5, 3)), ((7, 2), (7, 1)), ((7, 1), (7, 2))]
        for (prime, few), (_, many) in pairs:
            first = space_of(prime, few)
            second = Space(prime, NAMES[::-1][:many])
            for seed, one in enumerate(some_polynomials(prime, few, 8)):
                chosen = some_polynomials(prime, many, few + 6, seed + 2)[-few:]
                columns = [plain_table(prime, many, each) for each in chosen]
                table = [plain_value(prime, one, point) for point in zip(*columns)]
                self.assert_table(prime, many, replaced(first, one, second, chosen), table)

    def test_greatest_spaces(self):
        for prime, count in ((2, 8), (3, 5), (5, 3), (7, 2)):
            space = space_of(prime, count)
            one = some_polynomials(prime, count, 6)[-1]
            chosen = some_polynomials(prime, count, count + 4, 9)[-count:]
            columns = [plain_table(prime, count, each) for each in chosen]
            table = [plain_value(prime, one, point) for point in zip(*columns)]
            self.assert_table(prime, count, replaced(space, one, space, chosen), table)

    def test_unknowns_by_themselves(self):
        for prime, count in SIZES:
            space = space_of(prime, count)
            unknowns = [unknown(space, index) for index in range(count)]
            for one in some_polynomials(prime, count, 6):
                self.assertEqual(replaced(space, one, space, unknowns), one)

    def test_exchanged_unknowns(self):
        first = Space(3, ["x", "y"])
        second = Space(3, ["y", "x"])
        one = (((2, 1), 1), ((1, 0), 2))
        chosen = [unknown(second, 1), unknown(second, 0)]
        self.assertEqual(replaced(first, one, second, chosen), (((1, 2), 1), ((0, 1), 2)))

    def test_constants(self):
        first = space_of(5, 2)
        second = space_of(5, 3)
        one = (((4, 1), 2), ((0, 2), 1), ((0, 0), 3))
        chosen = [constant(second, 0), constant(second, 2)]
        self.assertEqual(replaced(first, one, second, chosen), constant(second, 4 + 3))
        self.assertEqual(replaced(first, (), second, chosen), ())
        self.assertEqual(replaced(first, constant(first, 4), second, chosen), constant(second, 4))


class ArgumentsTest(unittest.TestCase):
    def test_arguments_stay_as_they_were(self):
        first = space_of(3, 2)
        second = space_of(3, 3)
        chosen = [unknown(second, 2), plus(second, unknown(second, 0), constant(second, 1))]
        one = some_polynomials(3, 2, 4)[-1]
        kept = copy.deepcopy((vars(first), vars(second), chosen, one))
        replaced(first, one, second, chosen)
        raised(first, one, 5)
        times(first, one, one)
        plus(first, one, one)
        minus(first, one, one)
        scaled(first, one, 2)
        value(first, one, (1, 2))
        speaks_of(first, one)
        leading(one, "degree")
        self.assertEqual((vars(first), vars(second), chosen, one), kept)

    def test_lists_are_new_each_time(self):
        space = space_of(3, 2)
        one = (((1, 1), 1),)
        first = speaks_of(space, one)
        first.append(7)
        self.assertEqual(speaks_of(space, one), [0, 1])


if __name__ == "__main__":
    unittest.main()
