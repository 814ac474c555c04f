"""bases.py: points 5.1 to 5.7 of the document, and 0.3 for its functions."""

import copy
import itertools
import random
import unittest

from helpers import (SIZES, SMALL_SIZES, all_tuples, every_polynomial, plain_value, some_polynomials, space_of,
                     well_formed)
from standingpowers.bases import (basis, divided, growth, remainder, separators, stand_over, standing, with_values)
from standingpowers.polynomials import constant, degree, minus, number_of, plus, scaled, times, unknown
from standingpowers.spaces import Space
from standingpowers.tables import table_of

ORDERS = ("lex", "degree")
GREATEST_SIZES = [(2, 8), (3, 5), (5, 3), (7, 2)]


def key_of(order):
    """By what powers are compared in an order, by the words of point 1.4."""
    if order == "lex":
        return lambda power: power
    return lambda power: (sum(power), power)


def plain_powers(prime, count, order):
    return sorted(all_tuples(prime, count), key=key_of(order))


def plain_leading(one, order):
    return max((power for power, number in one), key=key_of(order))


def plain_divides(one, other):
    return all(low <= high for low, high in zip(one, other))


def plain_stand_over(prime, count, polynomials, order):
    leaders = [plain_leading(one, order) for one in polynomials if one]
    return [power for power in plain_powers(prime, count, order)
            if not any(plain_divides(leader, power) for leader in leaders)]


def plain_divided(space, one, polynomials, order):
    """Division step by step as point 5.2 tells it, with sums and products of whole polynomials."""
    left = one
    quotients = [() for _ in polynomials]
    over = plain_stand_over(space.prime, space.count, polynomials, order)
    while True:
        others = [power for power, number in left if power not in over]
        if not others:
            return quotients, left
        most = max(others, key=key_of(order))
        for index, divisor in enumerate(polynomials):
            if divisor and plain_divides(plain_leading(divisor, order), most):
                break
        leader = plain_leading(divisor, order)
        number = next(factor for factor in range(space.prime)
                      if factor * number_of(divisor, leader) % space.prime == number_of(left, most))
        pair = ((tuple(high - low for high, low in zip(most, leader)), number),)
        quotients[index] = plus(space, quotients[index], pair)
        left = minus(space, left, times(space, pair, divisor))


def values_at(prime, one, points):
    return [plain_value(prime, one, point) for point in points]


def quick_values(space, one, points):
    """The same for greater spaces, by the table, which has tests of its own."""
    value_by_point = dict(zip(all_tuples(space.prime, space.count), table_of(space, one)))
    return [value_by_point[point] for point in points]


def some_point_lists(prime, count, many, seed=3):
    """Always the same lists: no points, all points, one, and others in any order."""
    chance = random.Random(seed * 100 + prime * 10 + count)
    points = all_tuples(prime, count)
    found = [[], points, points[-1:], points[1:]]
    while len(found) < many:
        found.append(chance.sample(points, chance.randrange(1, len(points) + 1)))
    return found


def some_lists(prime, count, many):
    """Always the same lists of polynomials, thin ones, 0 and equal ones among them."""
    chance = random.Random(prime * 10 + count)
    powers = all_tuples(prime, count)[::-1]
    lists = [[], [()], [(((0,) * count, 1),)], [(), (((0,) * count, prime - 1),)]]
    while len(lists) < many:
        chosen = []
        for _ in range(chance.randrange(1, 5)):
            share = chance.choice([0, 2 / len(powers), 4 / len(powers), 0.5])
            chosen.append(tuple((power, chance.randrange(1, prime)) for power in powers if chance.random() < share))
        if chance.random() < 0.3:
            chosen.append(chosen[0])
        lists.append(chosen)
    return lists


class StandOverTest(unittest.TestCase):
    def test_by_its_words(self):
        for prime, count in SIZES:
            space = space_of(prime, count)
            for polynomials in some_lists(prime, count, 14):
                for order in ORDERS:
                    found = stand_over(space, polynomials, order)
                    self.assertIs(type(found), list)
                    self.assertEqual(found, plain_stand_over(prime, count, polynomials, order))

    def test_nothing_and_0(self):
        for prime, count in SIZES:
            space = space_of(prime, count)
            for order in ORDERS:
                for polynomials in ([], [()], [(), ()]):
                    self.assertEqual(stand_over(space, polynomials, order), plain_powers(prime, count, order))
                self.assertEqual(stand_over(space, [constant(space, 1)], order), [])
                self.assertEqual(stand_over(space, [(), constant(space, prime - 1)], order), [])

    def test_the_orders_differ(self):
        space = space_of(3, 2)
        one = (((1, 0), 1), ((0, 2), 1))
        self.assertEqual(stand_over(space, [one], "lex"), [(0, 0), (0, 1), (0, 2)])
        self.assertEqual(stand_over(space, [one], "degree"), [(0, 0), (0, 1), (1, 0), (1, 1), (2, 0), (2, 1)])


class DividedTest(unittest.TestCase):
    def assert_divided(self, space, one, polynomials, order):
        found = divided(space, one, polynomials, order)
        self.assertIs(type(found), tuple)
        quotients, rest = found
        self.assertIs(type(quotients), list)
        for part in quotients + [rest]:
            self.assertTrue(well_formed(space.prime, space.count, part), part)
        self.assertEqual(found, plain_divided(space, one, polynomials, order))
        total = rest
        for quotient, divisor in zip(quotients, polynomials):
            total = plus(space, total, times(space, quotient, divisor))
        self.assertEqual(total, one)
        over = plain_stand_over(space.prime, space.count, polynomials, order)
        self.assertTrue(all(power in over for power, number in rest))
        self.assertEqual(remainder(space, one, polynomials, order), rest)

    def test_small_spaces(self):
        for prime, count in SMALL_SIZES + [(2, 5), (3, 3), (5, 3), (7, 2)]:
            space = space_of(prime, count)
            for polynomials in some_lists(prime, count, 16):
                for one in some_polynomials(prime, count, 6):
                    for order in ORDERS:
                        self.assert_divided(space, one, polynomials, order)

    def test_greatest_spaces(self):
        for prime, count in ((2, 8), (3, 5)):
            space = space_of(prime, count)
            for polynomials in some_lists(prime, count, 7):
                for order in ORDERS:
                    self.assert_divided(space, some_polynomials(prime, count, 4)[-1], polynomials, order)

    def test_a_list_of_256_polynomials(self):
        space = space_of(2, 8)
        unknowns = [unknown(space, index) for index in range(8)]
        # All products of three, four or more unknowns, and 0 often enough.
        polynomials = [((power, 1), ((0,) * 8, 1)) for power in all_tuples(2, 8) if sum(power) > 2]
        polynomials += [()] * (256 - len(polynomials))
        for order in ORDERS:
            found = stand_over(space, polynomials, order)
            self.assertEqual(found, [power for power in plain_powers(2, 8, order) if sum(power) <= 2])
            self.assert_divided(space, times(space, times(space, *unknowns[:2]), unknowns[5]), polynomials, order)
            self.assert_divided(space, some_polynomials(2, 8, 6)[-1], polynomials, order)

    def test_every_pair_of_a_tiny_space(self):
        for prime, count in ((2, 2), (3, 1)):
            space = space_of(prime, count)
            everything = list(every_polynomial(prime, count))
            for one, divisor in itertools.product(everything, repeat=2):
                for order in ORDERS:
                    self.assert_divided(space, one, [divisor], order)
                    self.assert_divided(space, one, [everything[-2], divisor], order)

    def test_by_hand(self):
        space = space_of(5, 2)
        x, y = unknown(space, 0), unknown(space, 1)
        # x * x * y = x * (x * y - 1) + x
        one = times(space, times(space, x, x), y)
        divisor = minus(space, times(space, x, y), constant(space, 1))
        self.assertEqual(divided(space, one, [divisor], "lex"), ([x], x))
        # With 2 * x * y as the leading part, a half of it is taken, which is 3 times.
        doubled = scaled(space, divisor, 2)
        self.assertEqual(divided(space, one, [doubled], "degree"), ([scaled(space, x, 3)], x))

    def test_the_first_divisor_is_taken(self):
        space = space_of(3, 2)
        x, y = unknown(space, 0), unknown(space, 1)
        product = times(space, x, y)
        self.assertEqual(divided(space, product, [x, y], "lex"), ([y, ()], ()))
        self.assertEqual(divided(space, product, [y, x], "lex"), ([x, ()], ()))
        self.assertEqual(divided(space, product, [(), y, y, x], "lex"), ([(), x, (), ()], ()))
        shifted = plus(space, x, constant(space, 1))
        self.assertEqual(divided(space, product, [shifted, y], "lex"), ([y, constant(space, 2)], ()))
        self.assertEqual(divided(space, product, [y, shifted], "lex"), ([x, ()], ()))

    def test_powers_that_stand_are_left_on_the_way(self):
        space = space_of(3, 2)
        x, y = unknown(space, 0), unknown(space, 1)
        # y * y stands, and is greater than x in this order, which does not.
        one = plus(space, times(space, y, y), x)
        self.assertEqual(divided(space, one, [x], "degree"), ([constant(space, 1)], times(space, y, y)))

    def test_exponents_are_lessened(self):
        space = space_of(3, 1)
        x = unknown(space, 0)
        # x * x = x * (x + x * x) less x * x * x, which is x: the degree of a divisor counts, not that of the product.
        square = times(space, x, x)
        divisor = plus(space, square, x)
        self.assertEqual(divided(space, square, [divisor], "lex"), ([constant(space, 1)], scaled(space, x, 2)))
        space = space_of(2, 2)
        # x * y by x + y: y * (x + y) is x * y + y, because y * y is y.
        x, y = unknown(space, 0), unknown(space, 1)
        self.assertEqual(divided(space, times(space, x, y), [plus(space, x, y)], "lex"), ([y], y))

    def test_nothing_and_0(self):
        for prime, count in SMALL_SIZES:
            space = space_of(prime, count)
            for one in some_polynomials(prime, count, 6):
                for order in ORDERS:
                    self.assertEqual(divided(space, one, [], order), ([], one))
                    self.assertEqual(divided(space, one, [(), ()], order), ([(), ()], one))
                    self.assertEqual(divided(space, (), [one, ()], order), ([(), ()], ()))
                    self.assertEqual(divided(space, one, [(), constant(space, 1)], order), ([(), one], ()))
                    self.assertEqual(remainder(space, one, [], order), one)


class BruteForce:
    """All polynomials of a tiny space, with the points at which they are 0 and their leading powers."""

    def __init__(self, prime, count):
        self.prime = prime
        self.count = count
        self.points = all_tuples(prime, count)
        self.everything = []
        for one in every_polynomial(prime, count):
            zeros = {point for point in self.points if plain_value(prime, one, point) == 0}
            leaders = {order: plain_leading(one, order) for order in ORDERS} if one else None
            self.everything.append((one, zeros, leaders))

    def zero_at(self, points):
        return [(one, leaders) for one, zeros, leaders in self.everything if one and zeros.issuperset(points)]

    def standing(self, zero_at, order):
        """By the words of point 5.3."""
        leading = {leaders[order] for one, leaders in zero_at}
        return [power for power in plain_powers(self.prime, self.count, order) if power not in leading]

    def basis(self, zero_at, order):
        """By the words of point 5.4."""
        over = self.standing(zero_at, order)
        found = []
        for power in plain_powers(self.prime, self.count, order):
            below = [other for other in self.points if plain_divides(other, power) and other != power]
            if power not in over and all(other in over for other in below):
                fitting = [one for one, leaders in zero_at if number_of(one, power) == 1
                           and all(other == power or other in over for other, number in one)]
                found.extend(fitting)
        return found


class StandingTest(unittest.TestCase):
    def assert_basis(self, space, points, order):
        """Whether standing powers and basis have the properties of points 5.3 and 5.4."""
        prime, count = space.prime, space.count
        over = standing(space, points, order)
        found = basis(space, points, order)
        self.assertIs(type(over), list)
        self.assertIs(type(found), list)
        self.assertEqual(len(over), len(points))
        self.assertEqual(over, sorted(over, key=key_of(order)))
        self.assertEqual(plain_stand_over(prime, count, found, order), over)
        self.assertEqual(stand_over(space, found, order), over)
        corners = []
        standing_powers = set(over)
        for one in found:
            self.assertTrue(well_formed(prime, count, one), one)
            self.assertEqual(quick_values(space, one, points), [0] * len(points))
            leader = plain_leading(one, order)
            self.assertEqual(number_of(one, leader), 1)
            self.assertNotIn(leader, standing_powers)
            self.assertTrue(all(power == leader or power in standing_powers for power, number in one))
            corners.append(leader)
        self.assertEqual(corners, sorted(corners, key=key_of(order)))
        for one, other in itertools.permutations(corners, 2):
            self.assertFalse(plain_divides(one, other))

    def test_all_sets_of_points_of_tiny_spaces(self):
        for prime, count in ((2, 1), (2, 2), (2, 3), (3, 1), (5, 1)):
            space = space_of(prime, count)
            force = BruteForce(prime, count)
            for many in range(len(force.points) + 1):
                for points in itertools.combinations(force.points, many):
                    zero_at = force.zero_at(points)
                    for order in ORDERS:
                        self.assertEqual(standing(space, list(points), order), force.standing(zero_at, order))
                        self.assertEqual(basis(space, list(points), order), force.basis(zero_at, order))

    def test_sets_of_points_of_a_small_space(self):
        space = space_of(3, 2)
        force = BruteForce(3, 2)
        for points in some_point_lists(3, 2, 25):
            zero_at = force.zero_at(points)
            for order in ORDERS:
                self.assertEqual(standing(space, points, order), force.standing(zero_at, order))
                self.assertEqual(basis(space, points, order), force.basis(zero_at, order))

    def test_all_sizes(self):
        for prime, count in SIZES:
            space = space_of(prime, count)
            for points in some_point_lists(prime, count, 6):
                for order in ORDERS:
                    self.assert_basis(space, points, order)

    def test_no_points_and_all_points(self):
        for prime, count in SIZES:
            space = space_of(prime, count)
            for order in ORDERS:
                self.assertEqual(standing(space, [], order), [])
                self.assertEqual(basis(space, [], order), [constant(space, 1)])
                points = all_tuples(prime, count)
                self.assertEqual(standing(space, points, order), plain_powers(prime, count, order))
                self.assertEqual(basis(space, points, order), [])

    def test_one_point(self):
        space = space_of(5, 2)
        expected = [(((0, 1), 1), ((0, 0), 2)), (((1, 0), 1), ((0, 0), 4))]
        for order in ORDERS:
            self.assertEqual(standing(space, [(1, 3)], order), [(0, 0)])
            self.assertEqual(basis(space, [(1, 3)], order), expected)

    def test_the_orders_differ(self):
        space = space_of(3, 2)
        points = [(0, 0), (1, 1), (1, 2)]
        # In the first order, x is y * y at these points.
        self.assertEqual(standing(space, points, "lex"), [(0, 0), (0, 1), (0, 2)])
        self.assertEqual(basis(space, points, "lex"), [(((1, 0), 1), ((0, 2), 2))])
        self.assertEqual(standing(space, points, "degree"), [(0, 0), (0, 1), (1, 0)])
        self.assertEqual(basis(space, points, "degree"),
                         [(((1, 0), 2), ((0, 2), 1)), (((1, 1), 1), ((0, 1), 2)), (((2, 0), 1), ((1, 0), 2))])

    def test_the_order_of_the_points_does_not_matter(self):
        space = space_of(3, 2)
        points = [(0, 1), (2, 2), (1, 0), (0, 0), (2, 1)]
        for order in ORDERS:
            for mixed in itertools.permutations(points):
                self.assertEqual(standing(space, list(mixed), order), standing(space, points, order))
                self.assertEqual(basis(space, list(mixed), order), basis(space, points, order))


class ValuesTest(unittest.TestCase):
    def assert_values(self, space, points, values, order):
        found = with_values(space, points, values, order)
        self.assertTrue(well_formed(space.prime, space.count, found), found)
        self.assertEqual(quick_values(space, found, points), values)
        over = set(standing(space, points, order))
        self.assertTrue(all(power in over for power, number in found))

    def test_all_values_of_tiny_spaces(self):
        for prime, count in ((2, 2), (3, 1)):
            space = space_of(prime, count)
            for many in range(prime ** count + 1):
                for points in itertools.combinations(all_tuples(prime, count)[::-1], many):
                    for values in itertools.product(range(prime), repeat=many):
                        for order in ORDERS:
                            self.assert_values(space, list(points), list(values), order)

    def test_all_sizes(self):
        chance = random.Random(8)
        for prime, count in SIZES:
            space = space_of(prime, count)
            for points in some_point_lists(prime, count, 6, 4):
                values = [chance.randrange(prime) for _ in points]
                for order in ORDERS:
                    self.assert_values(space, points, values, order)
                self.assert_values(space, points, [0] * len(points), "lex")

    def test_by_hand(self):
        space = space_of(3, 2)
        points = [(1, 2), (0, 0), (1, 1)]
        self.assertEqual(with_values(space, points, [1, 0, 1], "lex"), (((0, 2), 1),))
        self.assertEqual(with_values(space, points, [1, 0, 1], "degree"), (((1, 0), 1),))
        self.assertEqual(with_values(space, points, [2, 1, 0], "degree"), (((1, 0), 0), ((0, 1), 2), ((0, 0), 1))[1:])
        self.assertEqual(with_values(space, points, [0, 0, 0], "lex"), ())
        self.assertEqual(with_values(space, [], [], "lex"), ())
        self.assertEqual(with_values(space, [], [], "degree"), ())

    def test_the_remainder_by_the_basis(self):
        for prime, count in SMALL_SIZES + GREATEST_SIZES:
            space = space_of(prime, count)
            many = 3 if (prime, count) in GREATEST_SIZES else 6
            for points in some_point_lists(prime, count, 6, 5):
                for order in ORDERS:
                    corners = basis(space, points, order)
                    over = set(standing(space, points, order))
                    for one in some_polynomials(prime, count, many)[2:]:
                        rest = remainder(space, one, corners, order)
                        values = quick_values(space, one, points)
                        self.assertEqual(quick_values(space, rest, points), values)
                        self.assertTrue(all(power in over for power, number in rest))
                        self.assertEqual(rest, with_values(space, points, values, order))

    def test_separators(self):
        for prime, count in SIZES:
            space = space_of(prime, count)
            for points in some_point_lists(prime, count, 5, 6):
                for order in ORDERS:
                    found = separators(space, points, order)
                    self.assertIs(type(found), list)
                    self.assertEqual(len(found), len(points))
                    over = set(standing(space, points, order))
                    # Of many of them, some: all of them are tried in small spaces below.
                    for at in range(0, len(points), max(1, len(points) // 8)):
                        self.assertTrue(well_formed(prime, count, found[at]))
                        expected = [1 if other == at else 0 for other in range(len(points))]
                        self.assertEqual(quick_values(space, found[at], points), expected)
                        self.assertTrue(over.issuperset(power for power, number in found[at]))

    def test_all_separators(self):
        for prime, count in SMALL_SIZES:
            space = space_of(prime, count)
            for points in some_point_lists(prime, count, 8, 7):
                for order in ORDERS:
                    found = separators(space, points, order)
                    rows = [values_at(prime, one, points) for one in found]
                    self.assertEqual(rows, [[int(at == other) for other in points] for at in points])

    def test_separators_by_hand(self):
        space = space_of(3, 1)
        expected = [(((1,), 2), ((0,), 1)), (((1,), 1),)]
        for order in ORDERS:
            self.assertEqual(separators(space, [(0,), (1,)], order), expected)
            self.assertEqual(separators(space, [(1,), (0,)], order), expected[::-1])
            self.assertEqual(separators(space, [(2,)], order), [constant(space, 1)])
            self.assertEqual(separators(space, [], order), [])


class GrowthTest(unittest.TestCase):
    def test_numbers_of_standing_powers(self):
        for prime, count in SIZES:
            space = space_of(prime, count)
            for points in some_point_lists(prime, count, 6, 8):
                found = growth(space, points)
                self.assertIs(type(found), list)
                degrees = [sum(power) for power in standing(space, points, "degree")]
                self.assertEqual(found, [degrees.count(least) for least in range(count * (prime - 1) + 1)])
                self.assertEqual(sum(found), len(points))

    def test_short_ones(self):
        space = space_of(3, 2)
        self.assertEqual(growth(space, []), [0, 0, 0, 0, 0])
        self.assertEqual(growth(space, all_tuples(3, 2)), [1, 2, 3, 2, 1])
        self.assertEqual(growth(space, [(2, 1)]), [1, 0, 0, 0, 0])
        self.assertEqual(growth(space, [(0, 0), (1, 1), (1, 2)]), [1, 2, 0, 0, 0])
        self.assertEqual(growth(space, [(0, 0), (1, 1), (2, 2)]), [1, 1, 1, 0, 0])
        self.assertEqual(growth(space_of(2, 8), all_tuples(2, 8)), [1, 8, 28, 56, 70, 56, 28, 8, 1])

    def test_how_many_lists_of_values(self):
        for prime, count in ((2, 2), (2, 3), (3, 1), (5, 1)):
            space = space_of(prime, count)
            everything = list(every_polynomial(prime, count))
            for points in some_point_lists(prime, count, 9, 9):
                found = growth(space, points)
                lists = [(degree(one), tuple(values_at(prime, one, points))) for one in everything]
                for most in range(count * (prime - 1) + 1):
                    different = {values for least, values in lists if least <= most}
                    self.assertEqual(len(different), prime ** sum(found[:most + 1]))

    def test_the_remainder_has_the_least_degree(self):
        for prime, count in ((2, 2), (2, 3), (3, 1)):
            space = space_of(prime, count)
            everything = list(every_polynomial(prime, count))
            for points in some_point_lists(prime, count, 7, 10):
                corners = basis(space, points, "degree")
                least = {}
                for one in everything:
                    values = tuple(values_at(prime, one, points))
                    least[values] = min(least.get(values, 99), degree(one))
                for one in everything:
                    values = tuple(values_at(prime, one, points))
                    self.assertEqual(degree(remainder(space, one, corners, "degree")), least[values])


class ListsTest(unittest.TestCase):
    def test_arguments_stay_as_they_were(self):
        space = Space(3, ["x", "y"])
        points = [(2, 1), (0, 0), (1, 2), (1, 1)]
        values = [1, 0, 2, 2]
        polynomials = [(), (((1, 1), 2), ((0, 1), 1)), (((2, 0), 2), ((0, 0), 1)), ()]
        one = some_polynomials(3, 2, 5)[-1]
        kept = copy.deepcopy((vars(space), points, values, polynomials, one))
        for order in ORDERS:
            stand_over(space, polynomials, order)
            divided(space, one, polynomials, order)
            remainder(space, one, polynomials, order)
            standing(space, points, order)
            basis(space, points, order)
            with_values(space, points, values, order)
            separators(space, points, order)
        growth(space, points)
        self.assertEqual((vars(space), points, values, polynomials, one), kept)

    def test_lists_are_new_each_time(self):
        space = Space(3, ["x", "y"])
        points = [(0, 0), (1, 2)]
        polynomials = [(((1, 1), 2), ((0, 1), 1))]
        one = (((2, 2), 1),)
        calls = [lambda: stand_over(space, polynomials, "degree"), lambda: stand_over(space, [], "lex"),
                 lambda: divided(space, one, polynomials, "lex")[0], lambda: standing(space, points, "lex"),
                 lambda: basis(space, points, "degree"), lambda: basis(space, [], "lex"),
                 lambda: separators(space, points, "lex"), lambda: growth(space, points)]
        for call in calls:
            first = call()
            kept = list(first)
            first.append(7)
            first[0] = None
            self.assertEqual(call(), kept)
        self.assertEqual(space.powers("lex"), all_tuples(3, 2))
        self.assertEqual(points, [(0, 0), (1, 2)])


if __name__ == "__main__":
    unittest.main()
