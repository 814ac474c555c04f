"""reading.py, expressions: points 3.1, 3.2 and 3.3 of the document."""

import copy
import itertools
import random
import re
import unittest

from helpers import SIZES, SMALL_SIZES, all_tuples, plain_table, some_polynomials, space_of, well_formed
from standingpowers.errors import PowersError, SyntaxFault
from standingpowers.polynomials import constant, raised, unknown
from standingpowers.reading import read_polynomial, write_polynomial
from standingpowers.spaces import Space

FACTOR = r"[x2B](\^2)?"
PRODUCT = rf"{FACTOR}(\*{FACTOR})*"
SUM = rf"-?{PRODUCT}([+-]{PRODUCT})*"


def is_expression(signs):
    """Whether a text of the signs x 2 + - * ^ ( ) is an expression, by replacing brackets from the inside."""
    before = None
    while signs != before:
        before = signs
        signs = re.sub(rf"\({SUM}\)", "B", signs)
    return re.fullmatch(SUM, signs) is not None


def can_go_on(signs):
    """Whether some expression begins with these signs."""
    ends = ["", "x", "2"]
    return any(is_expression(signs + end + ")" * depth) for end in ends for depth in range(len(signs) + 1))


class ReadingTest(unittest.TestCase):
    def assert_fault(self, space, text, column):
        with self.assertRaises(SyntaxFault, msg=repr(text)) as caught:
            read_polynomial(space, text)
        self.assertEqual((caught.exception.line, caught.exception.column), (1, column), repr(text))
        self.assertIsInstance(caught.exception, PowersError)

    def assert_table(self, space, text, table):
        found = read_polynomial(space, text)
        self.assertTrue(well_formed(space.prime, space.count, found), text)
        self.assertEqual(plain_table(space.prime, space.count, found), [at % space.prime for at in table], text)


class ExpressionTest(ReadingTest):
    def test_numbers(self):
        for prime in (2, 3, 5, 7):
            space = space_of(prime, 2)
            for number in list(range(0, 3 * prime)) + [10, 123456789, 999999999, 100000000]:
                self.assertEqual(read_polynomial(space, str(number)), constant(space, number))

    def test_leading_zeros(self):
        space = space_of(7, 1)
        for text, number in (("0", 0), ("00", 0), ("000000000", 0), ("01", 1), ("000000003", 3), ("0012", 12)):
            self.assertEqual(read_polynomial(space, text), constant(space, number))
        self.assertEqual(read_polynomial(space, "x^02"), read_polynomial(space, "x^2"))
        self.assertEqual(read_polynomial(space, "x^000000000"), constant(space, 1))

    def test_names(self):
        names = ["a", "abcdefghijkl", "a1", "a11", "not", "x9y"]
        space = Space(2, names)
        for index, name in enumerate(names):
            self.assertEqual(read_polynomial(space, name), unknown(space, index))
        self.assertEqual(read_polynomial(space, "a*a1*a11"), (((1, 0, 1, 1, 0, 0), 1),))

    def test_by_hand(self):
        space = Space(3, ["x", "y"])
        expected = {
            "x": (((1, 0), 1),),
            "-x": (((1, 0), 2),),
            "x + y": (((1, 0), 1), ((0, 1), 1)),
            "x - y": (((1, 0), 1), ((0, 1), 2)),
            "x - x": (),
            "x + x + x": (),
            "2*x*y + 1": (((1, 1), 2), ((0, 0), 1)),
            "-x^2": (((2, 0), 2),),
            "(-x)^2": (((2, 0), 1),),
            "-x*y - y": (((1, 1), 2), ((0, 1), 2)),
            "-x + y": (((1, 0), 2), ((0, 1), 1)),
            "x - y - x": (((0, 1), 2),),
            "x - (y - x)": (((1, 0), 2), ((0, 1), 2)),
            "(x + y)^2": (((2, 0), 1), ((1, 1), 2), ((0, 2), 1)),
            "(x + y)*(x - y)": (((2, 0), 1), ((0, 2), 2)),
            "2*x^2": (((2, 0), 2),),
            "x^3": (((1, 0), 1),),
            "x^4": (((2, 0), 1),),
            "x^0": (((0, 0), 1),),
            "0^0": (((0, 0), 1),),
            "(x - x)^0": (((0, 0), 1),),
            "0^1": (),
            "2^2": (((0, 0), 1),),
            "2^3": (((0, 0), 2),),
            "5^2*x": (((1, 0), 1),),
            "((((x))))": (((1, 0), 1),),
            "(-(-(-x)))": (((1, 0), 2),),
            "x*(y)*2": (((1, 1), 2),),
            "((x)^2)^2": (((2, 0), 1),),
        }
        for text, one in expected.items():
            self.assertEqual(read_polynomial(space, text), one, text)

    def test_spaces(self):
        space = Space(5, ["x", "y1"])
        tight = "-(x+2)^3*y1-4*x^12+(-y1)"
        loose = " -  ( x +  2 ) ^  3 * y1 -  4 *   x ^ 12  + ( - y1  )   "
        self.assertEqual(read_polynomial(space, tight), read_polynomial(space, loose))
        for before, behind in itertools.product(("", " ", "     "), repeat=2):
            self.assertEqual(read_polynomial(space, before + "x" + behind), unknown(space, 0))

    def test_exponents_are_not_taken_modulo_p(self):
        for prime in (2, 3, 5, 7):
            space = space_of(prime, 1)
            x = unknown(space, 0)
            for exponent in list(range(0, 3 * prime)) + [999999999, 999999998, 999999990, 100000000]:
                self.assertEqual(read_polynomial(space, f"x^{exponent}"), raised(space, x, exponent))
                table = [pow(number + 2, exponent, prime) for number in range(prime)]
                self.assert_table(space, f"(x + 2)^{exponent}", table)

    def test_expressions_made_by_chance(self):
        chance = random.Random(5)
        for prime, count in SIZES:
            space = space_of(prime, count)
            points = all_tuples(prime, count)
            for depth in (1, 2, 3, 4):
                for _ in range(4):
                    text, table = self.sum_by_chance(chance, space, points, depth)
                    self.assert_table(space, text, table)

    def sum_by_chance(self, chance, space, points, depth):
        sign = chance.choice(["", "-", "- "])
        text, table = self.product_by_chance(chance, space, points, depth)
        text = sign + text
        table = [-at if sign else at for at in table]
        for _ in range(chance.randrange(3)):
            sign = chance.choice("+-")
            more, other = self.product_by_chance(chance, space, points, depth)
            text += chance.choice(["", " "]) + sign + chance.choice(["", " "]) + more
            table = [at + by if sign == "+" else at - by for at, by in zip(table, other)]
        return text, table

    def product_by_chance(self, chance, space, points, depth):
        text, table = self.factor_by_chance(chance, space, points, depth)
        for _ in range(chance.randrange(3)):
            more, other = self.factor_by_chance(chance, space, points, depth)
            text += chance.choice(["*", " * "]) + more
            table = [at * by % space.prime for at, by in zip(table, other)]
        return text, table

    def factor_by_chance(self, chance, space, points, depth):
        kind = chance.randrange(4) if depth > 0 else chance.randrange(2)
        if kind == 0:
            number = chance.choice([0, 1, 2, 5, 6, 17, 999999999])
            text, table = str(number), [number] * len(points)
        elif kind == 1:
            index = chance.randrange(space.count)
            text, table = space.names[index], [point[index] for point in points]
        else:
            text, table = self.sum_by_chance(chance, space, points, depth - 1)
            text = "(" + text + ")"
        if chance.random() < 0.3:
            exponent = chance.choice([0, 1, 2, 3, 4, 7, 12, 123456789])
            text += chance.choice(["^", " ^ "]) + str(exponent)
            table = [pow(at, exponent, space.prime) for at in table]
        return text, table

    def test_deep_brackets(self):
        space = space_of(3, 2)
        for depth in (1, 2, 40, 41, 100):
            text = "(" * depth + "x" + ")" * depth
            self.assertEqual(read_polynomial(space, text), unknown(space, 0))
            text = "(1 - " * depth + "x" + ")" * depth
            expected = "x" if depth % 2 == 0 else "1 - x"
            self.assertEqual(read_polynomial(space, text), read_polynomial(space, expected))

    def test_long_texts(self):
        space = space_of(2, 8)
        names = space.names
        self.assertEqual(read_polynomial(space, "+".join(names[at % 8] for at in range(50000))), ())
        self.assertEqual(read_polynomial(space, "*".join(["(x+1)"] * 16666)), (((1,) + (0,) * 7, 1),)
                         + (((0,) * 8, 1),))
        self.assertEqual(read_polynomial(space, "x" + " " * 99999), unknown(space, 0))


class FaultTest(ReadingTest):
    def test_every_text_of_few_signs(self):
        space = space_of(3, 1)
        for length in range(5):
            for signs in itertools.product("x2+-*^()", repeat=length):
                # A space keeps names and numbers apart, which would else be one.
                self.assert_like_the_grammar(space, "".join(signs), " ".join(signs))

    def test_longer_texts_of_few_signs(self):
        space = space_of(3, 1)
        chance = random.Random(9)
        for _ in range(6000):
            signs = "".join(chance.choice("xx2+-*^(())") for _ in range(chance.randrange(5, 12)))
            self.assert_like_the_grammar(space, signs, " ".join(signs))

    def assert_like_the_grammar(self, space, signs, text):
        good = 0
        while good < len(signs) and can_go_on(signs[:good + 1]):
            good += 1
        if good < len(signs):
            self.assert_fault(space, text, 2 * good + 1)
        elif not is_expression(signs):
            self.assert_fault(space, text, len(text) + 1)
        else:
            program = compile(signs.replace("^", "**"), "expression", "eval")
            self.assert_table(space, text, [eval(program, {"x": number}) for number in range(3)])

    def test_what_is_no_token_at_each_place(self):
        space = space_of(3, 1)
        for length in range(4):
            for signs in itertools.product("x2+^(", repeat=length):
                good = 0
                while good < length and can_go_on("".join(signs[:good + 1])):
                    good += 1
                text = " ".join(signs)
                start = len(text) + 2 if text else 1
                column = 2 * good + 1 if good < length else start
                for wrong in ("y", "xx", "X", "2x", "1234567890", "abcdefghijklm", "=", "\t", "\n", "."):
                    self.assert_fault(space, (text + " " + wrong).strip(" "), column)
                    self.assert_fault(space, (text + " " + wrong + " + x").strip(" "), column)

    def test_texts_that_end_too_early(self):
        space = Space(5, ["x", "y"])
        for text in ("", " ", "     ", "-", "x +", "x + ", "x -   ", "x*", "2 * ", "x^", "x ^ ", "(", "(x", "(x ", "((x)",
                     "(x + y", "x*(y", "x + (", "(x)^", "-(", "- "):
            self.assert_fault(space, text, len(text) + 1)

    def test_tokens_that_cannot_stand_there(self):
        space = Space(5, ["x", "y"])
        faults = {
            "+x": 1, "*x": 1, "^2": 1, ")": 1, "  )": 3, "--x": 2, "- -x": 3, "x + -y": 5, "x - - y": 5, "x * -y": 5,
            "x ++ y": 4, "x +* y": 4, "x ** y": 4, "x y": 3, "x 2": 3, "2 x": 3, "2 2": 3, "x (y)": 3, "x(y)": 2,
            "2(x)": 2, "(x)(y)": 4, "(x)y": 4, "(x)2": 4, "()": 2, "( )": 3, "(+x)": 2, "(x +)": 5, "x)": 2, "(x))": 4,
            "x + y) + x": 6, "x^y": 3, "x^-1": 3, "x^(2)": 3, "x^+2": 3, "x^^2": 3, "x^2^3": 4, "x^2 ^ 3": 5,
            "x^2 3": 5, "(x^2)^2^2": 8, "x^)": 3, "(x^": 4, "(-)": 3, "(*": 2,
        }
        for text, column in faults.items():
            self.assert_fault(space, text, column)

    def test_numbers_of_nine_and_ten_digits(self):
        space = space_of(7, 1)
        for digits in ("123456789", "000000001", "999999999"):
            self.assertEqual(read_polynomial(space, digits), constant(space, int(digits)))
            self.assertEqual(read_polynomial(space, "x^" + digits), raised(space, unknown(space, 0), int(digits)))
            for longer in (digits + "0", "0" + digits, digits * 2):
                self.assert_fault(space, longer, 1)
                self.assert_fault(space, "x + " + longer, 5)
                self.assert_fault(space, "x^" + longer, 3)
                self.assert_fault(space, "(" + longer + ")", 2)

    def test_a_letter_behind_a_number(self):
        space = Space(7, ["x", "x2"])
        self.assert_fault(space, "2x", 1)
        self.assert_fault(space, "x + 34x", 5)
        self.assert_fault(space, "x^2x", 3)
        self.assert_fault(space, "x^2x2", 3)
        self.assert_fault(space, "1234567890x", 1)
        self.assert_fault(space, "0x1", 1)
        # Behind a capital letter or a sign the number has ended.
        self.assert_fault(space, "2X", 2)
        self.assert_fault(space, "x^2Y", 4)
        self.assert_fault(space, "2_", 2)
        self.assertEqual(read_polynomial(space, "x2"), unknown(space, 1))
        self.assert_fault(space, "x3", 1)

    def test_names_of_twelve_and_thirteen_characters(self):
        long = "a2345678901b"
        space = Space(3, [long, "a"])
        self.assertEqual(read_polynomial(space, long), unknown(space, 0))
        self.assertEqual(read_polynomial(space, f"a+{long}"), (((1, 0), 1), ((0, 1), 1)))
        for name in (long + "c", long + "0", long + long, "a" * 12, "a" * 13, long[:-1]):
            self.assert_fault(space, name, 1)
            self.assert_fault(space, f"a*{name}", 3)
            self.assert_fault(space, f"a {name}", 3)

    def test_names_that_are_no_unknowns(self):
        space = Space(3, ["x", "yy"])
        for text, column in {"y": 1, "yyy": 1, "z + x": 1, "x + z": 5, "x*(2 - xx)": 8, "x^2 + yy*y": 10,
                             "x1": 1, "z)": 1, "z +": 1, "x z": 3, "not": 1}.items():
            self.assert_fault(space, text, column)

    def test_characters_that_are_no_tokens(self):
        space = space_of(3, 1)
        signs = [chr(code) for code in range(32, 127)] + ["\t", "\n"]
        good = "abcdefghijklmnopqrstuvwxyz0123456789 +-*^()"
        for sign in signs:
            if sign not in good:
                self.assert_fault(space, sign, 1)
                self.assert_fault(space, "x" + sign, 2)
                self.assert_fault(space, "x + " + sign + "x", 5)
                self.assert_fault(space, "x" + sign + "+", 2)
                self.assert_fault(space, "2" + sign, 2)
                self.assert_fault(space, "x^" + sign, 3)
                self.assert_fault(space, "x " + sign, 3)

    def test_the_first_fault_counts(self):
        space = space_of(3, 1)
        self.assert_fault(space, "x x y ! )", 3)
        self.assert_fault(space, "x + ) + y", 5)
        self.assert_fault(space, "y + )", 1)
        self.assert_fault(space, "(x + 2x", 6)
        self.assert_fault(space, "x\n+ y", 2)
        self.assert_fault(space, "x\n\n\n", 2)
        self.assert_fault(space, "\nx", 1)


class WritingTest(unittest.TestCase):
    def test_by_hand(self):
        space = Space(5, ["x", "y", "z"])
        self.assertEqual(write_polynomial(space, ()), "0")
        self.assertEqual(write_polynomial(space, (((0, 0, 0), 1),)), "1")
        self.assertEqual(write_polynomial(space, (((0, 0, 0), 4),)), "4")
        self.assertEqual(write_polynomial(space, (((1, 0, 0), 1),)), "x")
        self.assertEqual(write_polynomial(space, (((0, 4, 0), 1),)), "y^4")
        self.assertEqual(write_polynomial(space, (((0, 1, 2), 3),)), "3*y*z^2")
        one = (((2, 1, 0), 4), ((1, 1, 1), 1), ((0, 0, 3), 2), ((0, 0, 1), 1), ((0, 0, 0), 1))
        self.assertEqual(write_polynomial(space, one), "4*x^2*y + x*y*z + 2*z^3 + z + 1")

    def test_names_keep_the_order_of_the_space(self):
        space = Space(2, ["b", "a10", "abcdefghijkl"])
        self.assertEqual(write_polynomial(space, (((1, 1, 1), 1), ((0, 1, 0), 1))), "b*a10*abcdefghijkl + a10")

    def test_reading_gives_the_polynomial_again(self):
        for prime, count in SIZES:
            space = space_of(prime, count)
            for one in some_polynomials(prime, count, 10):
                self.assertEqual(read_polynomial(space, write_polynomial(space, one)), one)

    def test_long_names(self):
        space = Space(2, [letter * 12 for letter in "abcdefgh"])
        one = some_polynomials(2, 8, 3)[2]
        text = write_polynomial(space, one)
        self.assertEqual(text.count(" + "), 255)
        self.assertEqual(read_polynomial(space, text), one)

    def test_all_terms(self):
        for prime, count in SMALL_SIZES:
            space = space_of(prime, count)
            for power in all_tuples(prime, count):
                for number in range(1, prime):
                    text = write_polynomial(space, ((power, number),))
                    parts = [str(number)] if number > 1 or not any(power) else []
                    parts += [f"{name}^{exponent}" if exponent > 1 else name
                              for name, exponent in zip(space.names, power) if exponent > 0]
                    self.assertEqual(text, "*".join(parts))


class ArgumentsTest(unittest.TestCase):
    def test_arguments_stay_as_they_were(self):
        space = space_of(3, 2)
        one = some_polynomials(3, 2, 5)[-1]
        kept = copy.deepcopy((vars(space), one))
        read_polynomial(space, write_polynomial(space, one))
        with self.assertRaises(SyntaxFault):
            read_polynomial(space, "x + (y")
        self.assertEqual((vars(space), one), kept)


if __name__ == "__main__":
    unittest.main()
