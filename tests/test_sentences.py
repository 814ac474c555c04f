"""sentences.py, truth and systems: point 16.1 of the document, and 0.3 and 0.5 for its functions."""

import copy
import random
import unittest

from helpers import (SIZES, SMALL_SIZES, all_tuples, plain_solutions, plain_table, plain_value, some_polynomials,
                     some_sentence, space_of, well_formed)
from standingpowers.polynomials import constant, minus, unknown
from standingpowers.reading import read_polynomial
from standingpowers.sentences import is_true, polynomial_of_sentence, system_of
from standingpowers.systems import System


def plain_truth(prime, sentence, point):
    """Whether a sentence is true by the words of point 16.1."""
    kind, *parts = sentence
    if kind in ("=", "/="):
        first, second = (plain_value(prime, one, point) for one in parts)
        return first == second if kind == "=" else first != second
    truths = [plain_truth(prime, part, point) for part in parts]
    return {"not": not truths[0], "and": all(truths), "or": any(truths), "=>": not truths[0] or truths[-1]}[kind]


def chain(kind, sentence, many):
    """A sentence under so many not, or put together with itself so often to the left."""
    found = sentence
    for _ in range(many):
        found = ("not", found) if kind == "not" else (kind, found, sentence)
    return found


class TruthTest(unittest.TestCase):
    def assert_sentence(self, space, sentence, points=None):
        prime, count = space.prime, space.count
        kept = copy.deepcopy(sentence)
        found = polynomial_of_sentence(space, sentence)
        self.assertTrue(well_formed(prime, count, found))
        for point in points or all_tuples(prime, count):
            truth = plain_truth(prime, sentence, point)
            self.assertIs(is_true(space, sentence, point), truth)
            self.assertEqual(plain_value(prime, found, point), 0 if truth else 1)
        self.assertEqual(sentence, kept)

    def test_the_six_forms(self):
        space = space_of(3, 2)
        x, y = unknown(space, 0), unknown(space, 1)
        one = constant(space, 1)
        first, second = ("=", x, y), ("/=", x, one)
        for sentence, truth in ((first, lambda a, b: a == b), (second, lambda a, b: a != 1),
                                (("not", first), lambda a, b: a != b),
                                (("and", first, second), lambda a, b: a == b != 1),
                                (("or", first, second), lambda a, b: a == b or a != 1),
                                (("=>", first, second), lambda a, b: a != b or a != 1)):
            for point in all_tuples(3, 2):
                self.assertIs(is_true(space, sentence, point), truth(*point))
            self.assert_sentence(space, sentence)

    def test_tables_of_the_forms(self):
        space = space_of(2, 1)
        true, false = ("=", (), ()), ("/=", (), ())
        for kind, wanted in (("and", [True, False, False, False]), ("or", [True, True, True, False]),
                             ("=>", [True, False, True, True])):
            pairs = [(true, true), (true, false), (false, true), (false, false)]
            self.assertEqual([is_true(space, (kind, one, other), (0,)) for one, other in pairs], wanted)
            self.assertEqual([polynomial_of_sentence(space, (kind, one, other)) for one, other in pairs],
                             [() if truth else constant(space, 1) for truth in wanted])
        self.assertIs(is_true(space, ("not", true), (1,)), False)
        self.assertIs(is_true(space, ("not", false), (1,)), True)

    def test_polynomials_by_hand(self):
        space = space_of(3, 1)
        x = unknown(space, 0)
        self.assertEqual(polynomial_of_sentence(space, ("=", x, ())), read_polynomial(space, "x^2"))
        self.assertEqual(polynomial_of_sentence(space, ("/=", x, ())), read_polynomial(space, "1 - x^2"))
        self.assertEqual(polynomial_of_sentence(space, ("=", x, x)), ())
        self.assertEqual(polynomial_of_sentence(space, ("not", ("=", x, x))), constant(space, 1))

    def test_equal_values_of_sides_that_are_not_0(self):
        for prime, count in SMALL_SIZES:
            space = space_of(prime, count)
            for first in some_polynomials(prime, count, 6, 5):
                for second in some_polynomials(prime, count, 6, 6):
                    self.assert_sentence(space, ("=", first, second))
                    self.assert_sentence(space, ("/=", first, second))

    def test_sentences_by_chance(self):
        chance = random.Random(16)
        for prime, count in SIZES:
            space = space_of(prime, count)
            for depth in (1, 2, 3, 4, 6):
                sentence = some_sentence(chance, space, depth)
                self.assert_sentence(space, sentence, chance.sample(space.points(), min(10, len(space.points()))))

    def test_deep_sentences(self):
        space = space_of(2, 8)
        x, y = unknown(space, 0), unknown(space, 7)
        points = all_tuples(2, 8)[::37]
        for kind in ("not", "and", "or", "=>"):
            self.assert_sentence(space, chain(kind, ("=", x, y), 44), points)
            self.assert_sentence(space, chain(kind, ("/=", x, y), 43), points)
        right = ("=", x, y)
        for _ in range(44):
            right = ("=>", ("/=", y, ()), right)
        self.assert_sentence(space, right, points)

    def test_500_parts(self):
        chance = random.Random(500)
        space = space_of(2, 8)
        # 250 comparisons and what joins them are 499 parts.
        level = [("=", *some_polynomials(2, 8, 4, at)[2:]) for at in range(250)]
        while len(level) > 1:
            pairs = [(chance.choice(["and", "or", "=>"]), *level[at:at + 2]) for at in range(0, len(level) - 1, 2)]
            level = pairs + level[len(pairs) * 2:]
        self.assert_sentence(space, level[0], all_tuples(2, 8)[::64])


class SystemTest(unittest.TestCase):
    def test_no_sentences(self):
        for prime, count in SIZES:
            space = space_of(prime, count)
            system = system_of(space, [])
            self.assertIs(type(system), System)
            self.assertEqual((system.equations, system.space.prime, system.space.names), ([], prime, space.names))
            self.assertEqual(len(system.solutions()), prime ** count)

    def test_systems_by_chance(self):
        chance = random.Random(17)
        for prime, count in SMALL_SIZES:
            space = space_of(prime, count)
            for many in (1, 2, 3, 5, 20):
                sentences = [some_sentence(chance, space, 3) for _ in range(many)]
                kept = copy.deepcopy(sentences)
                system = system_of(space, sentences)
                self.assertEqual(system.equations, [polynomial_of_sentence(space, one) for one in sentences])
                wanted = [point for point in all_tuples(prime, count)
                          if all(plain_truth(prime, one, point) for one in sentences)]
                self.assertEqual((system.solutions(), plain_solutions(system)), (wanted, wanted))
                self.assertEqual(sentences, kept)

    def test_the_order_of_the_equations(self):
        space = space_of(3, 2)
        x, y = unknown(space, 0), unknown(space, 1)
        first, second = ("=", x, ()), ("=", y, constant(space, 1))
        one = polynomial_of_sentence(space, first)
        other = polynomial_of_sentence(space, second)
        self.assertEqual(system_of(space, [first, second, first]).equations, [one, other, one])
        self.assertEqual(system_of(space, [second, first]).equations, [other, one])

    def test_a_sentence_and_its_equation(self):
        # x = y as a sentence has another polynomial than x - y, with the same solutions.
        space = space_of(5, 2)
        x, y = unknown(space, 0), unknown(space, 1)
        system = system_of(space, [("=", x, y)])
        self.assertEqual(system.solutions(), System(space, [minus(space, x, y)]).solutions())
        self.assertEqual(sorted(set(plain_table(5, 2, system.equations[0]))), [0, 1])

    def test_lists_are_new_and_arguments_stay(self):
        space = space_of(2, 2)
        sentences = [("=", unknown(space, 0), ()), ("not", ("/=", unknown(space, 1), ()))]
        kept = copy.deepcopy((sentences, vars(space)))
        first = system_of(space, sentences)
        first.equations.clear()
        is_true(space, sentences[1], (0, 1))
        self.assertEqual(len(system_of(space, sentences).equations), 2)
        self.assertEqual((sentences, vars(space)), kept)


if __name__ == "__main__":
    unittest.main()
