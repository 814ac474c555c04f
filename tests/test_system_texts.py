"""reading.py, systems: point 3.4 of the document."""

import copy
import itertools
import unittest

from helpers import NAMES, SIZES, some_polynomials, space_of
from standingpowers.errors import InvalidSystem, PowersError, SyntaxFault
from standingpowers.polynomials import constant, minus
from standingpowers.reading import read_polynomial, read_system, write_system
from standingpowers.spaces import Space
from standingpowers.systems import System

HEAD = "numbers 5\nunknowns x y"


class SystemTextTest(unittest.TestCase):
    def assert_equations(self, lines, expected):
        """Whether lines behind the head are read as equations that are other expressions."""
        system = read_system("\n".join([HEAD] + lines))
        self.assertIs(type(system), System)
        self.assertEqual((system.space.prime, system.space.names), (5, ["x", "y"]))
        self.assertIs(type(system.equations), list)
        self.assertEqual(system.equations, [read_polynomial(system.space, text) for text in expected])

    def assert_invalid(self, text, line):
        with self.assertRaises(InvalidSystem, msg=repr(text)) as caught:
            read_system(text)
        self.assertEqual(caught.exception.line, line, repr(text))
        self.assertIsInstance(caught.exception, PowersError)

    def assert_fault(self, lines, line, column):
        """Whether lines behind the head have their first fault at a place of the whole text."""
        text = "\n".join([HEAD] + lines)
        with self.assertRaises(SyntaxFault, msg=repr(text)) as caught:
            read_system(text)
        self.assertEqual((caught.exception.line, caught.exception.column), (line, column), repr(text))


class ReadingTest(SystemTextTest):
    def test_without_equations(self):
        self.assert_equations([], [])
        self.assertEqual(len(read_system(HEAD).solutions()), 25)

    def test_equations(self):
        self.assert_equations(["x"], ["x"])
        self.assert_equations(["x + y", "2*x - 1", "0"], ["x + y", "2*x - 1", "0"])
        self.assert_equations(["x = y"], ["x - y"])
        self.assert_equations(["x=y"], ["x - y"])
        self.assert_equations([" x  =  y "], ["x - y"])
        self.assert_equations(["-x = -y - 1"], ["-x - (-y - 1)"])
        self.assert_equations(["x - y = x + y"], ["3*y"])
        self.assert_equations(["x^2 = (y + 1)^3", "1 = 1", "x", "x", "0 = 0"],
                              ["x^2 - (y + 1)^3", "0", "x", "x", "0"])
        self.assert_equations(["  x"], ["x"])
        self.assert_equations(["x  "], ["x"])

    def test_equal_equations_stay(self):
        self.assert_equations(["x", "x", "y", "x"], ["x", "x", "y", "x"])

    def test_every_space(self):
        for prime, count in SIZES:
            lines = [f"numbers {prime}", "unknowns " + " ".join(NAMES[:count]), "x = 1"]
            system = read_system("\n".join(lines))
            space = space_of(prime, count)
            self.assertEqual((system.space.prime, system.space.names), (prime, space.names))
            self.assertEqual(system.equations, [minus(space, (((1,) + (0,) * (count - 1), 1),), constant(space, 1))])

    def test_names(self):
        system = read_system("numbers 2\nunknowns unknowns numbers abcdefghijkl b2\nnumbers*b2 = abcdefghijkl")
        self.assertEqual(system.space.names, ["unknowns", "numbers", "abcdefghijkl", "b2"])
        self.assertEqual(system.equations, [(((0, 1, 0, 1), 1), ((0, 0, 1, 0), 1))])

    def test_many_equations(self):
        self.assert_equations([f"x = {number}" for number in range(100)], [f"x - {number}" for number in range(100)])


class FirstLinesTest(SystemTextTest):
    def test_first_line(self):
        for first in ("", " ", "numbers", "numbers ", "numbers 4", "numbers 0", "numbers 1", "numbers 6", "numbers 8",
                      "numbers 9", "numbers 05", "numbers 11", "numbers 13", "numbers x", "numbers -5", "numbers +5",
                      "numbers  5", " numbers 5", "numbers 5 ", "numbers 5 5", "numbers\t5", "numbers 5\t", "Numbers 5",
                      "number 5", "numbers5", "5", "numbers 5.", "numbers 5 x", "5 numbers", "unknowns x y", "x"):
            self.assert_invalid(first + "\nunknowns x y\nx", 1)
            self.assert_invalid(first + "\nunknowns x y", 1)
            self.assert_invalid(first + "\nunknowns X", 1)
            self.assert_invalid(first + "\n", 1)
            self.assert_invalid(first, 1)

    def test_every_digit(self):
        for digit in "0123456789":
            if digit in "2357":
                self.assertEqual(read_system(f"numbers {digit}\nunknowns x").space.prime, int(digit))
            else:
                self.assert_invalid(f"numbers {digit}\nunknowns x", 1)

    def test_second_line(self):
        for second in ("", " ", "unknowns", "unknowns ", "unknowns  x", "unknowns x ", " unknowns x", "unknowns x  y",
                       "unknowns x x", "unknowns x y x", "unknowns X", "unknowns x Y", "unknowns 2", "unknowns 2x",
                       "unknowns x,y", "unknowns x\ty", "unknowns\tx", "unknowns x\t", "unknown x", "unknownsx", "x",
                       "Unknowns x", "unknowns x-y", "unknowns abcdefghijklm", "unknowns x =", "numbers 5",
                       "unknowns x y z u", "unknowns a b c d e f g h i", "unknowns x_1"):
            self.assert_invalid("numbers 5\n" + second, 2)
            self.assert_invalid("numbers 5\n" + second + "\nx", 2)
            self.assert_invalid("numbers 5\n" + second + "\n", 2)
            self.assert_invalid("numbers 5\n" + second + "\n)", 2)

    def test_missing_lines(self):
        self.assert_invalid("", 1)
        self.assert_invalid("\n", 1)
        self.assert_invalid("\n\n", 1)
        self.assert_invalid("numbers 5", 2)
        self.assert_invalid("numbers 5\n", 2)
        self.assert_invalid("numbers 5\n\n", 2)
        self.assert_invalid("numbers 5\n\nunknowns x", 2)
        self.assert_invalid("\nnumbers 5\nunknowns x", 1)

    def test_names_of_twelve_and_thirteen_characters(self):
        self.assertEqual(read_system("numbers 5\nunknowns a2345678901b").space.names, ["a2345678901b"])
        self.assert_invalid("numbers 5\nunknowns a2345678901bc", 2)

    def test_greatest_spaces(self):
        for prime, most in ((2, 8), (3, 5), (5, 3), (7, 2)):
            for count in range(1, 10):
                text = f"numbers {prime}\nunknowns " + " ".join((NAMES + ["more"])[:count])
                if count <= most:
                    self.assertEqual(read_system(text).space.count, count)
                else:
                    self.assert_invalid(text, 2)

    def test_wrong_second_line_before_faults(self):
        self.assert_invalid("numbers 5\nunknowns x x\n((", 2)
        self.assert_invalid("numbers 4\nunknowns x x\n((", 1)


class FaultTest(SystemTextTest):
    def test_line_and_column(self):
        self.assert_fault(["x +"], 3, 4)
        self.assert_fault(["x", "y", "x y"], 5, 3)
        self.assert_fault(["x", "z"], 4, 1)
        self.assert_fault(["x", "1234567890", ")"], 4, 1)
        self.assert_fault(["x", "x*2y"], 4, 3)
        self.assert_fault(["x", "x\ty"], 4, 2)
        self.assert_fault(["(x", "y)"], 3, 3)

    def test_the_first_line_with_a_fault_counts(self):
        self.assert_fault(["x + y", "x + y +", ")"], 4, 8)
        self.assert_fault(["x ! y", "", ""], 3, 3)

    def test_empty_lines(self):
        self.assert_fault([""], 3, 1)
        self.assert_fault(["", "x"], 3, 1)
        self.assert_fault(["x", "", "y"], 4, 1)
        self.assert_fault(["x", ""], 4, 1)
        self.assert_fault(["x", "", ""], 4, 1)
        self.assert_fault(["   "], 3, 4)
        self.assert_fault(["x", " "], 4, 2)

    def test_a_newline_at_the_end(self):
        with self.assertRaises(SyntaxFault) as caught:
            read_system("numbers 5\nunknowns x y\n")
        self.assertEqual((caught.exception.line, caught.exception.column), (3, 1))
        with self.assertRaises(SyntaxFault) as caught:
            read_system("numbers 5\nunknowns x y\nx\n")
        self.assertEqual((caught.exception.line, caught.exception.column), (4, 1))

    def test_before_the_equals_sign(self):
        self.assert_fault(["x + = y"], 3, 5)
        self.assert_fault(["x +=y"], 3, 4)
        self.assert_fault(["(x = y)"], 3, 4)
        self.assert_fault(["x y = x"], 3, 3)
        self.assert_fault(["z = x"], 3, 1)
        self.assert_fault(["x^ = )"], 3, 4)
        self.assert_fault(["(=)"], 3, 2)

    def test_behind_the_equals_sign(self):
        self.assert_fault(["x = y +"], 3, 8)
        self.assert_fault(["x = y + "], 3, 9)
        self.assert_fault(["x = (y"], 3, 7)
        self.assert_fault(["x = )"], 3, 5)
        self.assert_fault(["x = y y"], 3, 7)
        self.assert_fault(["x=z"], 3, 3)
        self.assert_fault(["x", "y = x", "x = +y"], 5, 5)
        self.assert_fault(["x = 1234567890"], 3, 5)

    def test_an_empty_side(self):
        self.assert_fault(["="], 3, 1)
        self.assert_fault([" ="], 3, 2)
        self.assert_fault(["= x"], 3, 1)
        self.assert_fault(["  = x"], 3, 3)
        self.assert_fault(["x ="], 3, 4)
        self.assert_fault(["x="], 3, 3)
        self.assert_fault(["x =   "], 3, 7)

    def test_a_second_equals_sign(self):
        self.assert_fault(["x = y = x"], 3, 7)
        self.assert_fault(["x == y"], 3, 4)
        self.assert_fault(["x = = y"], 3, 5)
        self.assert_fault(["x = y ="], 3, 7)
        self.assert_fault(["=="], 3, 1)
        self.assert_fault(["x = (y = x)"], 3, 8)
        # The first fault is ahead of it.
        self.assert_fault(["x = y x = x"], 3, 7)
        self.assert_fault(["x + = y = x"], 3, 5)


class WritingTest(SystemTextTest):
    def test_by_hand(self):
        space = Space(5, ["x", "y"])
        self.assertEqual(write_system(System(space, [])), "numbers 5\nunknowns x y")
        self.assertEqual(write_system(System(space, [()])), "numbers 5\nunknowns x y\n0")
        equations = [(((1, 0), 1), ((0, 0), 4)), (), (((2, 1), 3),)]
        self.assertEqual(write_system(System(space, equations)), "numbers 5\nunknowns x y\nx + 4\n0\n3*x^2*y")
        self.assertEqual(write_system(System(Space(7, ["abcdefghijkl"]), [])), "numbers 7\nunknowns abcdefghijkl")

    def test_reading_gives_the_system_again(self):
        for prime, count in SIZES:
            space = space_of(prime, count)
            for many in (0, 1, 2, 7, 20):
                equations = some_polynomials(prime, count, max(many, 3))[:many]
                text = write_system(System(space, equations))
                self.assertEqual(text.count("\n"), many + 1)
                system = read_system(text)
                self.assertEqual((system.space.prime, system.space.names), (prime, space.names))
                self.assertEqual(system.equations, equations)
                self.assertEqual(write_system(system), text)

    def test_written_without_equals_signs(self):
        text = write_system(read_system(HEAD + "\nx = y\n1 - x = 2"))
        self.assertEqual(text, HEAD + "\nx + 4*y\n4*x + 4")


class ListsTest(SystemTextTest):
    def test_arguments_stay_as_they_were(self):
        space = space_of(3, 2)
        equations = some_polynomials(3, 2, 5)
        system = System(space, equations)
        kept = copy.deepcopy((vars(space), system.equations))
        write_system(system)
        self.assertEqual((vars(space), system.equations), kept)
        self.assertIs(system.space, space)

    def test_each_system_is_new(self):
        text = HEAD + "\nx"
        systems = [read_system(text), read_system(text)]
        for first, second in itertools.permutations(systems, 2):
            self.assertIsNot(first, second)
            self.assertIsNot(first.equations, second.equations)
            self.assertIsNot(first.space.names, second.space.names)


if __name__ == "__main__":
    unittest.main()
