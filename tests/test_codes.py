"""codes.py: points 18.1 and 18.2 of the document, and 0.3, 0.4 and 0.5 for the class."""

import copy
import itertools
import random
import unittest

from helpers import SIZES, all_tuples, every_polynomial, plain_value, space_of
from standingpowers.bases import standing
from standingpowers.codes import Code
from standingpowers.spaces import Space, degree_of

# Spaces with so few polynomials that all of them can be tried.
TINY = [(2, 1), (2, 2), (2, 3), (3, 1), (5, 1)]


def differing(one, other):
    return sum(first != second for first, second in zip(one, other))


def plain_words(prime, count, points, most):
    """The different lists of values of all polynomials of at most a degree."""
    found = {}
    for one in every_polynomial(prime, count):
        if max([sum(power) for power, number in one], default=-1) <= most:
            found[tuple(plain_value(prime, one, point) for point in points)] = True
    return sorted(found)


def some_points(prime, count, seed):
    """Always the same lists of points: none, one, a few, all."""
    chance = random.Random(seed * 100 + prime * 10 + count)
    everything = all_tuples(prime, count)
    sizes = {0, 1, len(everything) // 3, len(everything) // 2, len(everything) - 1, len(everything)}
    return [sorted(chance.sample(everything, size)) for size in sorted(sizes)]


class CodeTest(unittest.TestCase):
    def words_of(self, code):
        """All words of a code, by its own method."""
        many = len(code.carriers())
        return [code.word(list(numbers)) for numbers in all_tuples(code.space.prime, many)]

    def small_codes(self):
        """Codes of at most 1024 words, some of each space."""
        for prime, count in SIZES:
            for points in some_points(prime, count, 1):
                for most in (0, 1, 2):
                    code = Code(space_of(prime, count), points, most)
                    if prime ** len(code.carriers()) <= 1024:
                        yield code


class FieldsTest(CodeTest):
    def test_fields(self):
        space = Space(3, ["x", "y"])
        code = Code(space, [(0, 1), (2, 2)], 3)
        self.assertEqual((code.space.prime, code.space.names), (3, ["x", "y"]))
        self.assertEqual((code.points, code.most), ([(0, 1), (2, 2)], 3))
        self.assertIs(type(code.points), list)

    def test_a_list_that_is_changed_behind(self):
        space = Space(2, ["x", "y"])
        points = [(0, 0), (0, 1), (1, 0), (1, 1)]
        code = Code(space, points, 1)
        answers = (code.carriers(), code.word([1, 0, 1]), code.numbers([0, 1, 0, 1]), code.distance())
        points.pop()
        points[0] = (1, 1)
        self.assertEqual(code.points, [(0, 0), (0, 1), (1, 0), (1, 1)])
        self.assertEqual((code.carriers(), code.word([1, 0, 1]), code.numbers([0, 1, 0, 1]), code.distance()), answers)
        self.assertEqual(code.nearest([0, 0, 0, 1]).count(1) % 2, 0)


class CarriersTest(CodeTest):
    def test_all_sizes(self):
        for prime, count in SIZES:
            space = space_of(prime, count)
            for points in some_points(prime, count, 2):
                powers = standing(space, points, "degree")
                for most in (0, 1, 2, count * (prime - 1), count * (prime - 1) + 1, 10 ** 9):
                    code = Code(space, points, most)
                    found = code.carriers()
                    self.assertIs(type(found), list)
                    self.assertEqual(found, [power for power in powers if degree_of(power) <= most])

    def test_by_hand(self):
        space = Space(3, ["x", "y"])
        self.assertEqual(Code(space, space.points(), 1).carriers(), [(0, 0), (0, 1), (1, 0)])
        self.assertEqual(Code(space, space.points(), 2).carriers(), [(0, 0), (0, 1), (1, 0), (0, 2), (1, 1), (2, 0)])
        self.assertEqual(Code(space, space.points(), 0).carriers(), [(0, 0)])
        # On a line x is y, and the greater power x does not stand.
        self.assertEqual(Code(space, [(0, 0), (1, 1), (2, 2)], 1).carriers(), [(0, 0), (0, 1)])
        self.assertEqual(Code(space, [(2, 1)], 4).carriers(), [(0, 0)])
        self.assertEqual(Code(space, [], 4).carriers(), [])

    def test_growth_of_the_number_of_words(self):
        for prime, count in TINY:
            for points in some_points(prime, count, 3):
                for most in range(count * (prime - 1) + 2):
                    code = Code(space_of(prime, count), points, most)
                    words = plain_words(prime, count, points, most)
                    self.assertEqual(prime ** len(code.carriers()), len(words))


class WordsTest(CodeTest):
    def test_all_words_of_tiny_spaces(self):
        for prime, count in TINY:
            for points in some_points(prime, count, 4):
                for most in range(count * (prime - 1) + 2):
                    code = Code(space_of(prime, count), points, most)
                    words = self.words_of(code)
                    self.assertEqual(sorted(tuple(word) for word in words), plain_words(prime, count, points, most))

    def test_a_word_is_the_values_of_a_sum(self):
        chance = random.Random(18)
        for prime, count in SIZES:
            for points in some_points(prime, count, 5):
                for most in (0, 1, 3):
                    code = Code(space_of(prime, count), points, most)
                    carriers = code.carriers()
                    numbers = [chance.randrange(prime) for _ in carriers]
                    kept = list(numbers)
                    word = code.word(numbers)
                    self.assertIs(type(word), list)
                    one = list(zip(carriers, numbers))
                    self.assertEqual(word, [plain_value(prime, one, point) for point in points])
                    self.assertEqual(code.numbers(word), kept)
                    self.assertEqual(numbers, kept)

    def test_by_hand(self):
        space = Space(5, ["x"])
        code = Code(space, [(0,), (1,), (3,), (4,)], 1)
        self.assertEqual(code.word([0, 0]), [0, 0, 0, 0])
        self.assertEqual(code.word([2, 0]), [2, 2, 2, 2])
        self.assertEqual(code.word([2, 3]), [2, 0, 1, 4])
        self.assertEqual(code.numbers([2, 0, 1, 4]), [2, 3])
        self.assertIsNone(code.numbers([2, 0, 1, 3]))
        self.assertEqual(Code(space, [], 1).word([]), [])
        self.assertEqual(Code(space, [], 1).numbers([]), [])

    def test_numbers_of_every_list_of_tiny_spaces(self):
        for prime, count in TINY:
            for points in some_points(prime, count, 6):
                for most in range(count * (prime - 1) + 2):
                    code = Code(space_of(prime, count), points, most)
                    words = {tuple(word): True for word in self.words_of(code)}
                    for values in itertools.islice(itertools.product(range(prime), repeat=len(points)), 300):
                        found = code.numbers(list(values))
                        if values in words:
                            self.assertIs(type(found), list)
                            self.assertEqual((len(found), tuple(code.word(found))), (len(code.carriers()), values))
                        else:
                            self.assertIsNone(found)

    def test_values_changed_at_each_place(self):
        for code in self.small_codes():
            distance = code.distance()
            prime = code.space.prime
            word = code.word([1] * len(code.carriers()))
            for at in range(0, len(word), 1 + len(word) // 20):
                changed = list(word)
                changed[at] = (changed[at] + 1) % prime
                kept = list(changed)
                found = code.numbers(changed)
                if distance is None or distance > 1:
                    self.assertIsNone(found)
                elif found is not None:
                    self.assertEqual(code.word(found), changed)
                self.assertEqual(changed, kept)

    def test_beyond_the_greatest_degree_every_list_is_a_word(self):
        chance = random.Random(7)
        for prime, count in SIZES:
            for points in some_points(prime, count, 7):
                code = Code(space_of(prime, count), points, count * (prime - 1) + chance.randrange(3))
                self.assertEqual(len(code.carriers()), len(points))
                values = [chance.randrange(prime) for _ in points]
                self.assertEqual(code.word(code.numbers(values)), values)


class DistanceTest(CodeTest):
    def test_tiny_spaces(self):
        for prime, count in TINY:
            for points in some_points(prime, count, 8):
                for most in range(count * (prime - 1) + 2):
                    words = plain_words(prime, count, points, most)
                    if len(words) <= 256:
                        wanted = min([differing(one, other) for one, other in itertools.combinations(words, 2)],
                                     default=None)
                        self.assertEqual(Code(space_of(prime, count), points, most).distance(), wanted)

    def test_known_codes(self):
        # The words of a degree of at most r in n unknowns modulo 2 have the distance 2 to the power n - r.
        for count in range(1, 9):
            space = space_of(2, count)
            for most in range(count + 1):
                code = Code(space, space.points(), most)
                if len(code.carriers()) <= 10:
                    self.assertEqual(code.distance(), 2 ** (count - most))
        # A polynomial of one unknown has no more zeros than its degree says.
        for prime in (3, 5, 7):
            space = space_of(prime, 1)
            for most in range(prime):
                if prime ** (most + 1) <= 1024:
                    self.assertEqual(Code(space, space.points(), most).distance(), prime - most)

    def test_the_degree_0(self):
        for prime, count in SIZES:
            for points in some_points(prime, count, 9):
                code = Code(space_of(prime, count), points, 0)
                self.assertEqual(code.distance(), len(points) if points else None)

    def test_one_word_only(self):
        for prime, count in SIZES:
            for most in (0, 1, 5, 100):
                code = Code(space_of(prime, count), [], most)
                self.assertIsNone(code.distance())
                self.assertEqual((code.carriers(), code.word([]), code.numbers([]), code.nearest([])), ([], [], [], []))

    def test_one_point(self):
        for prime, count in SIZES:
            code = Code(space_of(prime, count), [(prime - 1,) * count], 3)
            self.assertEqual((code.carriers(), code.distance()), ([(0,) * count], 1))
            for number in range(prime):
                self.assertEqual((code.word([number]), code.numbers([number]), code.nearest([number])),
                                 ([number], [number], [number]))

    def test_linear_as_the_words_are(self):
        for code in self.small_codes():
            weights = [sum(number != 0 for number in word) for word in self.words_of(code)]
            self.assertEqual(code.distance(), min([weight for weight in weights if weight], default=None))


class NearestTest(CodeTest):
    def assert_nearest(self, code, words, values):
        kept = list(values)
        found = code.nearest(values)
        self.assertIs(type(found), list)
        self.assertIn(found, words)
        self.assertEqual(differing(found, values), min(differing(word, values) for word in words))
        self.assertEqual(values, kept)

    def test_every_list_of_tiny_spaces(self):
        for prime, count in TINY:
            for points in some_points(prime, count, 10):
                for most in range(count * (prime - 1) + 2):
                    code = Code(space_of(prime, count), points, most)
                    words = self.words_of(code)
                    for values in itertools.islice(itertools.product(range(prime), repeat=len(points)), 0, None, 13):
                        self.assert_nearest(code, words, list(values))

    def test_lists_by_chance(self):
        chance = random.Random(19)
        for code in self.small_codes():
            words = self.words_of(code)
            for _ in range(2):
                self.assert_nearest(code, words, [chance.randrange(code.space.prime) for _ in code.points])

    def test_words_and_lists_at_few_places_from_them(self):
        chance = random.Random(20)
        for code in self.small_codes():
            distance, prime = code.distance(), code.space.prime
            for _ in range(3):
                word = code.word([chance.randrange(prime) for _ in code.carriers()])
                self.assertEqual(code.nearest(word), word)
                changed = list(word)
                places = chance.sample(range(len(word)), ((distance or 1) - 1) // 2)
                for at in places:
                    changed[at] = (changed[at] + chance.randrange(1, prime)) % prime
                # At fewer places than half the distance says, so this word is the only nearest one.
                self.assertEqual(code.nearest(changed), word)

    def test_by_hand(self):
        space = Space(3, ["x"])
        code = Code(space, space.points(), 0)
        self.assertEqual(code.nearest([1, 1, 2]), [1, 1, 1])
        self.assertEqual(code.nearest([2, 0, 2]), [2, 2, 2])
        self.assertIn(code.nearest([0, 1, 2]), ([0, 0, 0], [1, 1, 1], [2, 2, 2]))

    def test_1024_words(self):
        space = Space(2, list("abcdefgh"))
        chance = random.Random(21)
        points = sorted(chance.sample(space.points(), 10))
        code = Code(space, points, 8)
        self.assertEqual((len(code.carriers()), code.distance()), (10, 1))
        values = [chance.randrange(2) for _ in points]
        self.assertEqual(code.nearest(values), values)
        code = Code(Space(2, list("abcd")), all_tuples(2, 4), 2)
        self.assertEqual((len(code.carriers()), code.distance()), (11, 4))


class ListsTest(CodeTest):
    def test_lists_are_new_each_time(self):
        space = Space(3, ["x", "y"])
        code = Code(space, space.points(), 1)
        values = [0, 1, 2] * 3
        for make in (code.carriers, lambda: code.word([1, 2, 0]), lambda: code.numbers(values),
                     lambda: code.nearest(values), lambda: code.nearest([1] * 9)):
            first = make()
            kept = list(first)
            first.clear()
            first.append(5)
            self.assertEqual(make(), kept)
        self.assertEqual(values, [0, 1, 2] * 3)
        self.assertEqual(code.points, all_tuples(3, 2))

    def test_arguments_stay_as_they_were(self):
        space = Space(2, ["x", "y", "z"])
        points = space.points()
        kept = copy.deepcopy((points, vars(space)))
        code = Code(space, points, 1)
        code.nearest(code.word([1, 0, 1, 1]))
        code.distance()
        self.assertEqual((points, vars(space)), kept)


if __name__ == "__main__":
    unittest.main()
