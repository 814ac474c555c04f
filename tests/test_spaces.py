"""spaces.py: points 1.1 to 1.4 of the document, and 0.3 for its functions."""

import copy
import itertools
import unittest

from helpers import NAMES, SIZES, SMALL_SIZES, all_tuples, space_of
from standingpowers.errors import InvalidSpace, PowersError
from standingpowers.spaces import Space, degree_of, divides, inverse, is_less, is_name, value_of


class NumbersTest(unittest.TestCase):
    def test_inverse(self):
        for prime in (2, 3, 5, 7):
            for number in range(1, prime):
                with self.subTest(prime=prime, number=number):
                    found = inverse(prime, number)
                    self.assertIs(type(found), int)
                    self.assertIn(found, range(1, prime))
                    self.assertEqual(number * found % prime, 1)


class NamesTest(unittest.TestCase):
    def test_names(self):
        for text in ("a", "z", "x", "x0", "a9", "z0z", "unknown", "not", "abcdefghijkl", "a12345678901"):
            self.assertIs(is_name(text), True, text)

    def test_length(self):
        self.assertIs(is_name(""), False)
        self.assertIs(is_name("b"), True)
        self.assertIs(is_name("b" * 12), True)
        self.assertIs(is_name("b" * 13), False)
        self.assertIs(is_name("b" * 1000), False)

    def test_every_letter_and_digit(self):
        for sign in "abcdefghijklmnopqrstuvwxyz":
            self.assertIs(is_name(sign), True, sign)
            self.assertIs(is_name("q" + sign), True, sign)
        for sign in "0123456789":
            self.assertIs(is_name(sign), False, sign)
            self.assertIs(is_name("q" + sign), True, sign)

    def test_all_other_characters(self):
        good = "abcdefghijklmnopqrstuvwxyz0123456789"
        others = [chr(code) for code in range(128) if chr(code) not in good]
        # Letters and digits elsewhere in the world are no letters from a to z.
        others += ["\u00e9", "\u00df", "\u03b1", "\u0661", "\u00b2", "\u0131", "\uff41"]
        for sign in others:
            for text in (sign, sign + "a", "a" + sign, "a" + sign + "a"):
                self.assertIs(is_name(text), False, repr(text))

    def test_several_wrong_ones(self):
        for text in ("0", "9a", "X", "aB", "x y", " x", "x ", "x_1", "-x", "x+y", "x\n", "_", "ab cd"):
            self.assertIs(is_name(text), False, repr(text))


class SpaceTest(unittest.TestCase):
    def assert_no_space(self, prime, names):
        with self.assertRaises(InvalidSpace) as caught:
            Space(prime, names)
        self.assertIsInstance(caught.exception, PowersError)
        self.assertIsInstance(caught.exception, ValueError)

    def test_fields(self):
        for prime, count in SIZES:
            with self.subTest(prime=prime, count=count):
                space = Space(prime, NAMES[:count])
                self.assertEqual(space.prime, prime)
                self.assertIs(type(space.names), list)
                self.assertEqual(space.names, NAMES[:count])
                self.assertEqual(space.count, count)

    def test_names_keep_their_order(self):
        self.assertEqual(Space(3, ["y", "x", "abcdefghijkl", "b2"]).names, ["y", "x", "abcdefghijkl", "b2"])

    def test_wrong_primes(self):
        for prime in [number for number in range(-10, 30) if number not in (2, 3, 5, 7)] + [-2, 257, 10 ** 20]:
            self.assert_no_space(prime, ["x"])

    def test_number_of_names(self):
        self.assert_no_space(2, [])
        self.assertEqual(Space(2, NAMES).count, 8)
        self.assert_no_space(2, NAMES + ["r"])
        self.assert_no_space(2, [f"x{at}" for at in range(1000)])

    def test_equal_names(self):
        self.assert_no_space(2, ["x", "x"])
        self.assert_no_space(3, ["x", "y", "x"])
        self.assert_no_space(2, ["a1", "b", "c", "a1"])

    def test_strings_that_are_no_names(self):
        for text in ("", "X", "1", "1x", "x y", "x_", "-", "b" * 13, "x\n", "\u00e9"):
            self.assert_no_space(2, [text])
            self.assert_no_space(5, ["x", text])
            self.assert_no_space(5, [text, "x"])

    def test_at_most_256_points(self):
        for prime, most in ((2, 8), (3, 5), (5, 3), (7, 2)):
            self.assertEqual(len(Space(prime, NAMES[:most]).points()), prime ** most)
            for count in range(most + 1, 9):
                self.assert_no_space(prime, NAMES[:count])

    def test_names_changed_behind(self):
        names = ["x", "y"]
        space = Space(3, names)
        names.append("z")
        names[0] = "q"
        self.assertEqual(space.names, ["x", "y"])
        self.assertEqual(space.count, 2)
        self.assertEqual(len(space.points()), 9)

    def test_names_stay_as_they_were(self):
        names = ["y", "x"]
        Space(2, names)
        self.assertEqual(names, ["y", "x"])

    def test_spaces_have_no_equality_of_their_own(self):
        self.assertNotEqual(Space(2, ["x"]), Space(2, ["x"]))

    def test_points(self):
        for prime, count in SIZES:
            with self.subTest(prime=prime, count=count):
                points = space_of(prime, count).points()
                self.assertIs(type(points), list)
                self.assertEqual(points, all_tuples(prime, count))

    def test_is_point(self):
        for prime, count in SMALL_SIZES:
            space = space_of(prime, count)
            for length in range(0, count + 3):
                for thing in itertools.product(range(-1, prime + 1), repeat=length):
                    right = length == count and min(thing) >= 0 and max(thing) < prime
                    self.assertIs(space.is_point(thing), right, thing)

    def test_is_point_far_off(self):
        space = space_of(7, 2)
        for thing in ((), (0,), (0, 0, 0), (10 ** 9, 0), (0, -10 ** 9), (0, 7), (7, 0), (-1, 0), (0, -7)):
            self.assertIs(space.is_point(thing), False, thing)

    def test_zero(self):
        for prime, count in SIZES:
            self.assertEqual(space_of(prime, count).zero(), (0,) * count)

    def test_powers_as_tuples(self):
        for prime, count in SIZES:
            powers = space_of(prime, count).powers("lex")
            self.assertIs(type(powers), list)
            self.assertEqual(powers, all_tuples(prime, count))

    def test_powers_by_degree(self):
        for prime, count in SIZES:
            powers = space_of(prime, count).powers("degree")
            self.assertIs(type(powers), list)
            self.assertEqual(powers, sorted(all_tuples(prime, count), key=lambda power: (sum(power), power)))

    def test_powers_of_a_small_space(self):
        space = space_of(3, 2)
        lex = [(0, 0), (0, 1), (0, 2), (1, 0), (1, 1), (1, 2), (2, 0), (2, 1), (2, 2)]
        by_degree = [(0, 0), (0, 1), (1, 0), (0, 2), (1, 1), (2, 0), (1, 2), (2, 1), (2, 2)]
        self.assertEqual(space.powers("lex"), lex)
        self.assertEqual(space.powers("degree"), by_degree)

    def test_lists_are_new_each_time(self):
        space = space_of(3, 2)
        for taken in (space.points, lambda: space.powers("lex"), lambda: space.powers("degree")):
            first = taken()
            kept = list(first)
            first.reverse()
            first.append("more")
            self.assertEqual(taken(), kept)
            self.assertIsNot(taken(), taken())
        lex = space.powers("lex")
        lex.clear()
        self.assertEqual(len(space.points()), 9)
        self.assertEqual(len(space.powers("degree")), 9)
        self.assertIs(space.is_point((2, 2)), True)


class PowersTest(unittest.TestCase):
    def test_degree_of(self):
        for prime, count in SIZES:
            for power in all_tuples(prime, count):
                self.assertEqual(degree_of(power), sum(power))
        self.assertEqual(degree_of((6, 0)), 6)
        self.assertEqual(degree_of((0, 0, 0)), 0)

    def test_divides(self):
        for prime, count in SMALL_SIZES:
            for one, other in itertools.product(all_tuples(prime, count), repeat=2):
                right = all(low <= high for low, high in zip(one, other))
                self.assertIs(divides(one, other), right, (one, other))

    def test_is_less(self):
        for prime, count in SMALL_SIZES:
            for one, other in itertools.product(all_tuples(prime, count), repeat=2):
                by_degree = (sum(one), one) < (sum(other), other)
                self.assertIs(is_less("lex", one, other), one < other, (one, other))
                self.assertIs(is_less("degree", one, other), by_degree, (one, other))

    def test_the_orders_differ(self):
        self.assertIs(is_less("lex", (0, 2), (1, 0)), True)
        self.assertIs(is_less("degree", (0, 2), (1, 0)), False)
        self.assertIs(is_less("degree", (1, 0), (0, 2)), True)
        self.assertIs(is_less("degree", (0, 2), (1, 1)), True)

    def test_powers_ascend_as_is_less_says(self):
        for prime, count in SIZES:
            for order in ("lex", "degree"):
                powers = space_of(prime, count).powers(order)
                self.assertEqual(powers[0], (0,) * count)
                for one, other in zip(powers, powers[1:]):
                    self.assertIs(is_less(order, one, other), True)
                    self.assertIs(is_less(order, other, one), False)

    def test_value_of(self):
        for prime, count in SMALL_SIZES:
            space = space_of(prime, count)
            for power, point in itertools.product(all_tuples(prime, count), repeat=2):
                expected = 1
                for number, exponent in zip(point, power):
                    expected *= number ** exponent
                self.assertEqual(value_of(space, power, point), expected % prime, (power, point))

    def test_no_factor_gives_1(self):
        space = space_of(3, 2)
        self.assertEqual(value_of(space, (0, 0), (0, 0)), 1)
        self.assertEqual(value_of(space, (0, 1), (0, 2)), 2)
        self.assertEqual(value_of(space, (1, 0), (0, 2)), 0)
        self.assertEqual(value_of(space, (2, 2), (2, 2)), 1)

    def test_arguments_stay_as_they_were(self):
        space = space_of(5, 2)
        before = copy.deepcopy(vars(space))
        space.points().sort(reverse=True)
        space.powers("degree").sort(reverse=True)
        value_of(space, (4, 3), (2, 3))
        space.is_point((1, 1))
        space.zero()
        self.assertEqual(vars(space), before)


if __name__ == "__main__":
    unittest.main()
