"""written.py: points 15.1, 15.2 and 15.3 of the document, and 0.2, 0.3 and 0.5 for its functions."""

import copy
import random
import re
import unittest

from helpers import SIZES, SMALL_SIZES, changed_text, plain_solutions, some_polynomials, some_systems, space_of
from standingpowers.errors import InvalidPaper, PowersError, SyntaxFault
from standingpowers.papers import Paper, accepts, paper_of
from standingpowers.polynomials import constant, plus, scaled, times, unknown
from standingpowers.reading import read_polynomial, write_polynomial
from standingpowers.spaces import Space
from standingpowers.systems import System
from standingpowers.written import audit, read_paper, write_paper

ORDERS = ("lex", "degree")


def fields(paper):
    return paper.order, paper.rows, paper.points


def is_expression(space, text):
    try:
        read_polynomial(space, text)
    except SyntaxFault:
        return False
    return True


def first_wrong_line(space, text):
    """The number of the first line that is wrong by the words of point 15.2, None if there is none."""
    digits = "".join(str(number) for number in range(space.prime))
    point = "point" + f" [{digits}]" * space.count
    before = None
    for number, line in enumerate(text.split("\n"), 1):
        if number == 1:
            right = line in ("paper lex", "paper degree")
        elif line.startswith("basis "):
            right = before != "point" and is_expression(space, line[6:])
        elif line.startswith("by "):
            right = before in ("basis", "by") and is_expression(space, line[3:])
        else:
            right = re.fullmatch(point, line) is not None
        if not right:
            return number
        before = line.split(" ")[0]
    return None


def circle():
    """x^2 + y^2 = 1 and x*y = 0 modulo 3, with the solutions (0, 1), (0, 2), (1, 0), (2, 0)."""
    space = Space(3, ["x", "y"])
    return System(space, [read_polynomial(space, "x^2 + y^2 - 1"), read_polynomial(space, "x*y")])


CIRCLE = "\n".join(["paper lex", "basis x*y", "by 0", "by 1", "basis x^2 + y^2 + 2", "by 1", "by 0",
                    "point 0 1", "point 0 2", "point 1 0", "point 2 0"])


class WrittenTest(unittest.TestCase):
    def setUp(self):
        self.space = Space(3, ["x", "y"])

    def one(self, text):
        return read_polynomial(self.space, text)

    def assert_read(self, text, order, rows, points):
        paper = read_paper(self.space, text)
        self.assertIs(type(paper), Paper)
        self.assertEqual(fields(paper), (order, rows, points))
        self.assertEqual((type(paper.rows), type(paper.points)), (list, list))
        for row in paper.rows:
            self.assertEqual((type(row), type(row[1])), (tuple, list))
        for point in paper.points:
            self.assertIs(type(point), tuple)

    def assert_invalid(self, text, line, space=None):
        with self.assertRaises(InvalidPaper, msg=repr(text)) as caught:
            read_paper(space or self.space, text)
        self.assertEqual(caught.exception.line, line, repr(text))
        self.assertIsInstance(caught.exception, PowersError)
        self.assertIsNone(audit(System(space or self.space, []), text))


class WritingTest(WrittenTest):
    def test_by_hand(self):
        rows = [(self.one("x*y"), [(), self.one("1")]), (self.one("x^2 + y^2 - 1"), [self.one("1"), ()])]
        paper = Paper("lex", rows, [(0, 1), (0, 2), (1, 0), (2, 0)])
        self.assertEqual(write_paper(self.space, paper), CIRCLE)

    def test_without_rows_and_points(self):
        self.assertEqual(write_paper(self.space, Paper("lex", [], [])), "paper lex")
        self.assertEqual(write_paper(self.space, Paper("degree", [], [])), "paper degree")
        self.assertEqual(write_paper(self.space, Paper("lex", [], [(2, 0)])), "paper lex\npoint 2 0")
        self.assertEqual(write_paper(self.space, Paper("lex", [((), [])], [])), "paper lex\nbasis 0")

    def test_rows_with_no_factors_and_with_several(self):
        rows = [(self.one("x"), []), ((), [(), ()]), (self.one("2"), [self.one("x + 1"), (), self.one("2*x*y^2")])]
        self.assertEqual(write_paper(self.space, Paper("degree", rows, [])),
                         "paper degree\nbasis x\nbasis 0\nby 0\nby 0\nbasis 2\nby x + 1\nby 0\nby 2*x*y^2")

    def test_one_unknown(self):
        space = Space(7, ["by"])
        paper = Paper("lex", [(unknown(space, 0), [constant(space, 6)])], [(0,), (6,)])
        self.assertEqual(write_paper(space, paper), "paper lex\nbasis by\nby 6\npoint 0\npoint 6")


class ReadingTest(WrittenTest):
    def test_by_hand(self):
        rows = [(self.one("x*y"), [(), self.one("1")]), (self.one("x^2 + y^2 - 1"), [self.one("1"), ()])]
        self.assert_read(CIRCLE, "lex", rows, [(0, 1), (0, 2), (1, 0), (2, 0)])

    def test_without_rows_and_points(self):
        for order in ORDERS:
            self.assert_read(f"paper {order}", order, [], [])
            self.assert_read(f"paper {order}\npoint 1 1", order, [], [(1, 1)])
            self.assert_read(f"paper {order}\nbasis y", order, [(self.one("y"), [])], [])

    def test_rows_with_no_factors_and_with_several(self):
        self.assert_read("paper degree\nbasis x\nbasis 0\nby 0\nbasis 1\nbasis y\nby x\nby y\nby x\npoint 0 0",
                         "degree", [(self.one("x"), []), ((), [()]), (self.one("1"), []),
                                    (self.one("y"), [self.one("x"), self.one("y"), self.one("x")])], [(0, 0)])

    def test_only_the_form_is_read(self):
        # Points that stand twice, and rows of 0 with any factors, have their form.
        self.assert_read("paper lex\nbasis 0\nby 1\nby 1\nbasis 0\npoint 1 1\npoint 1 1\npoint 0 2", "lex",
                         [((), [self.one("1"), self.one("1")]), ((), [])], [(1, 1), (1, 1), (0, 2)])

    def test_more_spaces_and_other_expressions(self):
        rows = [(self.one("x + y"), [self.one("x*y"), ()])]
        for first in ("x + y", "  x + y", "x+y", "y + x", " ( x+y ) ", "4*x - 2*y", "x + y  ", "(x + y)^1", "x^3 + y^9",
                      "      x+y", "0 + x + 001*y"):
            for second in ("x*y", " y*x ", "-2*(x*y)", "   x * y   ", "x^3*y^3", "x*y + 3"):
                self.assert_read(f"paper lex\nbasis {first}\nby {second}\nby  0\npoint 0 0", "lex", rows, [(0, 0)])

    def test_unknowns_that_are_words_of_the_text(self):
        space = Space(2, ["basis", "by", "point", "paper"])
        rows = [(unknown(space, 0), [unknown(space, 1)]), (unknown(space, 2), [unknown(space, 3)])]
        paper = Paper("lex", rows, [(1, 0, 0, 1)])
        text = "paper lex\nbasis basis\nby by\nbasis point\nby paper\npoint 1 0 0 1"
        self.assertEqual(write_paper(space, paper), text)
        self.assertEqual(fields(read_paper(space, text)), fields(paper))

    def test_all_numbers_of_points(self):
        for prime, count in SIZES:
            space = space_of(prime, count)
            points = space.points()
            lines = ["point " + " ".join(str(number) for number in point) for point in points]
            self.assertEqual(read_paper(space, "\n".join(["paper lex"] + lines)).points, points)

    def test_reading_what_was_written(self):
        for prime, count in SIZES:
            space = space_of(prime, count)
            for system in some_systems(prime, count)[:8]:
                for order in ORDERS:
                    paper = paper_of(system, order)
                    self.assertEqual(fields(read_paper(space, write_paper(space, paper))), fields(paper))

    def test_reading_papers_made_by_chance(self):
        chance = random.Random(15)
        for prime, count in SIZES:
            space = space_of(prime, count)
            polynomials = some_polynomials(prime, count, 6, 9)
            for _ in range(5):
                rows = [(chance.choice(polynomials), [chance.choice(polynomials) for _ in range(chance.randrange(4))])
                        for _ in range(chance.randrange(4))]
                points = [chance.choice(space.points()) for _ in range(chance.randrange(6))]
                paper = Paper(chance.choice(ORDERS), rows, points)
                kept = copy.deepcopy(fields(paper))
                text = write_paper(space, paper)
                self.assertEqual(fields(read_paper(space, text)), kept)
                self.assertEqual(fields(paper), kept)


class WrongLinesTest(WrittenTest):
    def test_first_lines(self):
        for first in ("", " ", "paper", "paper ", "paper  lex", "paper lex ", " paper lex", "paper\tlex", "paper lex\t",
                      "paper Lex", "Paper lex", "paper deg", "paper lexdegree", "paper lex degree", "lex", "paperlex",
                      "paper plain", "paper 3", "basis x", "point 0 0", "by x"):
            self.assert_invalid(first, 1)
            self.assert_invalid(first + "\n", 1)
            self.assert_invalid(first + "\nbasis x\nby x\npoint 0 0", 1)
            self.assert_invalid(first + "\nnothing", 1)

    def test_by_without_a_basis(self):
        self.assert_invalid("paper lex\nby x", 2)
        self.assert_invalid("paper lex\nby x\nbasis x", 2)
        self.assert_invalid("paper lex\nby 0\npoint 0 0", 2)

    def test_behind_a_point(self):
        for more in ("basis x", "by x", "basis", "by", "paper lex", "by 0"):
            self.assert_invalid("paper lex\npoint 0 0\n" + more, 3)
            self.assert_invalid("paper lex\nbasis x\nby 1\npoint 0 0\n" + more, 5)
            self.assert_invalid("paper lex\nbasis x\nby 1\npoint 0 0\npoint 0 1\n" + more + "\npoint 0 2", 6)

    def test_points(self):
        for line in ("point", "point ", "point 0", "point 0 ", "point 0 0 0", "point 0 0 ", "point  0 0", "point 0  0",
                     " point 0 0", "point 0 3", "point 3 0", "point 0 9", "point 0 -1", "point -1 0", "point 0 +1",
                     "point 00 0", "point 0 01", "point 0 10", "point 0 1x", "point 0 x", "point x y", "point 0,0",
                     "point 0\t0", "point\t0 0", "point 0 0\t", "point0 0", "point00", "points 0 0", "Point 0 0",
                     "point (0, 0)", "point 0 0 # 1", "0 0"):
            self.assert_invalid("paper lex\n" + line, 2)
            self.assert_invalid("paper lex\nbasis x\n" + line + "\npoint 0 0", 3)
            self.assert_invalid("paper lex\nbasis x\nby 1\npoint 0 0\n" + line, 5)

    def test_numbers_that_are_the_prime_or_more(self):
        for prime in (2, 3, 5, 7):
            space = Space(prime, ["x", "y"])
            for number in range(12):
                for line in (f"point {number} 0", f"point 0 {number}"):
                    if number < prime:
                        self.assertEqual(len(read_paper(space, "paper lex\n" + line).points), 1)
                    else:
                        self.assert_invalid("paper lex\n" + line, 2, space)

    def test_points_of_one_unknown(self):
        space = Space(3, ["x"])
        self.assertEqual(read_paper(space, "paper lex\npoint 2").points, [(2,)])
        for line in ("point", "point ", "point 3", "point 0 0", "point  0", "point 0 ", "point 00"):
            self.assert_invalid("paper lex\n" + line, 2, space)

    def test_expressions(self):
        for text in ("", " ", "x +", "x y", "2x", "z", "x = y", "(x", "x)", "X", "x\t", "\tx", "1234567890", "x^",
                     "x^y", "--x", "+x", "not x", "x,y", "x/y", "0 0", "()", "abcdefghijklm"):
            self.assert_invalid("paper lex\nbasis " + text, 2)
            self.assert_invalid("paper lex\nbasis x\nby " + text, 3)
            self.assert_invalid("paper lex\nbasis x\nby 0\nby " + text + "\npoint 0 0", 4)
            self.assert_invalid("paper lex\nbasis x\nby 0\nbasis " + text + "\nby 1", 4)

    def test_words_that_are_none(self):
        for line in ("basis", "basis\tx", "basisx", " basis x", "Basis x", "base x", "by", "by\tx", "byx", " by x",
                     "By x", "bye x", "x", "paper lex", "paper degree", "row x", "basis(x)", "by(x)", "-", "#"):
            self.assert_invalid("paper lex\n" + line, 2)
            self.assert_invalid("paper lex\nbasis x\n" + line, 3)
            self.assert_invalid("paper lex\nbasis x\nby x\n" + line + "\npoint 0 0", 4)

    def test_empty_lines(self):
        self.assert_invalid("paper lex\n", 2)
        self.assert_invalid("paper lex\n\n", 2)
        self.assert_invalid("paper lex\n\nbasis x", 2)
        self.assert_invalid("paper lex\nbasis x\n", 3)
        self.assert_invalid("paper lex\nbasis x\n\nby x", 3)
        self.assert_invalid("paper lex\nbasis x\nby x\n\npoint 0 0", 4)
        self.assert_invalid("paper lex\npoint 0 0\n\npoint 0 1", 3)
        self.assert_invalid(CIRCLE + "\n", 12)
        self.assert_invalid(CIRCLE + "\n ", 12)
        self.assert_invalid("\n" + CIRCLE, 1)

    def test_the_first_wrong_line_counts(self):
        self.assert_invalid("paper\nby x\nbasis 2x\npoint 3 0\n", 1)
        self.assert_invalid("paper lex\nby x\nbasis 2x\npoint 3 0\n", 2)
        self.assert_invalid("paper lex\nbasis x\nbasis 2x\npoint 3 0\n", 3)
        self.assert_invalid("paper lex\nbasis x\nbasis 2\npoint 3 0\n", 4)
        self.assert_invalid("paper lex\nbasis x\nbasis 2\npoint 2 0\n", 5)
        self.assert_invalid("paper lex\npoint 0 0\nbasis x +\npoint 9 9", 3)
        self.assert_invalid("paper lex\npoint 0 0\npoint 9 9\nbasis x", 3)

    def test_changed_texts_like_the_words_of_the_document(self):
        chance = random.Random(6)
        system = circle()
        texts = [CIRCLE, write_paper(self.space, paper_of(system, "degree")), "paper lex\nbasis 0\nbasis x + 1\nby y"]
        wrong = 0
        for _ in range(6000):
            text = changed_text(chance, chance.choice(texts), " \n\t0123xy+*^()-",
                                ["basis", "by", "point", "0", "2", "x", "y^2"])
            line = first_wrong_line(self.space, text)
            if line is None:
                paper = read_paper(self.space, text)
                again = write_paper(self.space, paper)
                self.assertEqual(fields(read_paper(self.space, again)), fields(paper))
                self.assertEqual(audit(system, text), len(paper.points) if accepts(system, paper) else None)
            else:
                wrong += 1
                self.assert_invalid(text, line)
        self.assertGreater(wrong, 3000)
        self.assertLess(wrong, 5900)


class AuditTest(WrittenTest):
    def assert_refused(self, system, order, rows, points):
        self.assertIsNone(audit(system, write_paper(system.space, Paper(order, rows, points))))

    def test_the_papers_of_systems(self):
        for prime, count in SIZES:
            for system in some_systems(prime, count)[:9]:
                for order in ORDERS:
                    text = write_paper(system.space, paper_of(system, order))
                    found = audit(system, text)
                    self.assertEqual((found, type(found)), (len(plain_solutions(system)), int))

    def test_by_hand(self):
        system = circle()
        self.assertEqual(audit(system, CIRCLE), 4)
        self.assertEqual(audit(system, CIRCLE.replace("x*y", " y*x ").replace("by 1", "by  (4 - 3)^7")), 4)
        self.assertEqual(audit(System(self.space, []), "paper lex"), None)
        nothing = System(self.space, [self.one("1")])
        self.assertEqual(audit(nothing, "paper lex\nbasis 1\nby 1"), 0)
        self.assertIsNone(audit(nothing, "paper lex"))
        self.assertIsNone(audit(nothing, "paper lex\nbasis 2\nby 1"))

    def test_all_points(self):
        for prime, count in SIZES:
            space = space_of(prime, count)
            for equations in ([], [()]):
                system = System(space, equations)
                for order in ORDERS:
                    text = write_paper(space, Paper(order, [], space.points()))
                    self.assertEqual(audit(system, text), prime ** count)
                    self.assertIsNone(audit(system, text[:text.rfind("\n")]))

    def test_the_order(self):
        three = System(space_of(2, 3), [read_polynomial(space_of(2, 3), "x + y*z")])
        text = write_paper(three.space, paper_of(three, "lex"))
        self.assertEqual(audit(three, text), 4)
        self.assertIsNone(audit(three, text.replace("paper lex", "paper degree")))
        self.assertIsNone(audit(three, text.replace("paper lex", "paper plain")))

    def test_wrong_rows(self):
        for prime, count in SMALL_SIZES:
            for system in some_systems(prime, count):
                paper = paper_of(system, "lex")
                many = len(system.equations)
                self.assert_refused(system, "lex", paper.rows + [((), [()] * many)], paper.points)
                for at, (polynomial, factors) in enumerate(paper.rows):
                    others = [(polynomial, factors + [()]), (polynomial, factors[:-1]), (polynomial, []),
                              (plus(system.space, polynomial, constant(system.space, 1)), factors)]
                    for other in others:
                        rows = paper.rows[:at] + [other] + paper.rows[at + 1:]
                        self.assert_refused(system, "lex", rows, paper.points)
                    self.assert_refused(system, "lex", paper.rows[:at] + paper.rows[at + 1:], paper.points)

    def test_wrong_factors(self):
        for prime, count in SMALL_SIZES:
            for system in some_systems(prime, count):
                paper = paper_of(system, "degree")
                for at, (polynomial, factors) in enumerate(paper.rows):
                    for index in range(len(factors)):
                        others = list(factors)
                        others[index] = plus(system.space, factors[index], constant(system.space, 1))
                        rows = paper.rows[:at] + [(polynomial, others)] + paper.rows[at + 1:]
                        text = write_paper(system.space, Paper("degree", rows, paper.points))
                        right = system.equations[index] == ()
                        self.assertEqual(audit(system, text), len(paper.points) if right else None)

    def test_wrong_points(self):
        for prime, count in SMALL_SIZES:
            for system in some_systems(prime, count):
                paper = paper_of(system, "lex")
                others = [point for point in system.space.points() if point not in paper.points]
                for wrong in others + paper.points:
                    self.assert_refused(system, "lex", paper.rows, paper.points + [wrong])
                if paper.points:
                    self.assert_refused(system, "lex", paper.rows, paper.points[1:])
                    for wrong in others:
                        self.assert_refused(system, "lex", paper.rows, paper.points[1:] + [wrong])
                if len(paper.points) > 1:
                    self.assert_refused(system, "lex", paper.rows, paper.points[1:] + paper.points[1:2])

    def test_other_right_papers(self):
        system = circle()
        paper = paper_of(system, "lex")
        many = len(paper.points)
        doubled = [(scaled(self.space, one, 2), [scaled(self.space, factor, 2) for factor in factors])
                   for one, factors in paper.rows]
        for rows in (doubled, paper.rows[::-1], doubled + paper.rows):
            self.assertEqual(audit(system, write_paper(self.space, Paper("lex", rows, paper.points[::-1]))), many)

    def test_the_paper_of_another_system(self):
        for prime, count in ((2, 2), (3, 1), (3, 2)):
            systems = some_systems(prime, count)
            for one in systems:
                for other in systems:
                    paper = paper_of(other, "degree")
                    wanted = len(paper.points) if accepts(one, paper) else None
                    self.assertEqual(audit(one, write_paper(one.space, paper)), wanted)

    def test_the_paper_of_a_system_of_another_space(self):
        text = write_paper(space_of(2, 3), paper_of(System(space_of(2, 3), []), "lex"))
        for prime, count in SMALL_SIZES:
            found = audit(System(space_of(prime, count), []), text)
            self.assertEqual(found, 8 if (prime, count) == (2, 3) else None)
        self.assertIsNone(audit(System(Space(3, ["a", "b"]), []), CIRCLE))

    def test_texts_that_are_no_papers(self):
        system = circle()
        for text in ("", "\n", "paper", "paper lex\n", "numbers 3\nunknowns x y", CIRCLE + "\n", CIRCLE + "\n\n",
                     "\n" + CIRCLE, CIRCLE.replace("by 1", "by 1 +"), CIRCLE.replace("basis", "base"),
                     CIRCLE.replace("\n", " "), CIRCLE.replace("\n", "\t\n"), CIRCLE.replace("0 1", "0 3"),
                     "".join(chr(code) for code in range(32, 127)), "x" * 1000, "(" * 40, "\t", "paper lex\nby 1"):
            self.assertIsNone(audit(system, text))

    def test_no_text_makes_an_error(self):
        chance = random.Random(7)
        signs = [chr(code) for code in range(32, 127)] + ["\n", "\n", "\t"]
        system = circle()
        for _ in range(300):
            at = chance.randrange(len(CIRCLE))
            noise = "".join(chance.choice(signs) for _ in range(chance.randrange(1, 30)))
            for text in (noise, "paper lex\n" + noise, "paper degree\nbasis " + noise, CIRCLE[:at] + noise,
                         CIRCLE[:at] + noise + CIRCLE[at:]):
                found = audit(system, text)
                if found is not None:
                    self.assertIs(accepts(system, read_paper(system.space, text)), True)

    def test_long_texts(self):
        system = circle()
        for text in ("x" * 100000, "\n" * 100000, "paper lex\nbasis " + "(" * 90000, "paper lex\nbasis " + "-" * 90000,
                     "paper lex\n" + "point 0 1\n" * 9000, "paper lex\nbasis x*y\n" + "by 0\n" * 200,
                     "paper lex\nbasis " + "(" * 40 + "x" + ")" * 40 + "*0" * 40000, "paper lex\nbasis " + "9" * 90000):
            self.assertIsNone(audit(system, text))
        long = CIRCLE.replace("by 0", "by 0" + " + 0*(x - y)^123456789" * 2000)
        self.assertEqual(audit(system, long), 4)

    def test_256_rows(self):
        space = space_of(2, 8)
        system = System(space, [constant(space, 1)])
        lines = ["paper degree"]
        for power in space.powers("lex"):
            text = write_polynomial(space, ((power, 1),))
            lines += ["basis " + text, "by " + text]
        self.assertEqual(audit(system, "\n".join(lines)), 0)
        self.assertIsNone(audit(system, "\n".join(lines[:1] + lines[3:])))


class GuaranteeTest(WrittenTest):
    def test_a_text_is_taken_exactly_if_it_is_an_accepted_paper(self):
        space = Space(2, ["x"])
        polynomials = [(), (((0,), 1),), (((1,), 1),), (((1,), 1), ((0,), 1))]
        rows = [[]] + [[(one, [factor])] for one in polynomials for factor in polynomials]
        taken = 0
        for equation in polynomials:
            system = System(space, [equation])
            solutions = plain_solutions(system)
            for order in ORDERS:
                for some_rows in rows:
                    for points in ([], [(0,)], [(1,)], [(0,), (1,)], [(1,), (0,)], [(1,), (1,)]):
                        found = audit(system, write_paper(space, Paper(order, some_rows, points)))
                        self.assertEqual(found is not None, accepts(system, Paper(order, some_rows, points)))
                        if found is not None:
                            taken += 1
                            self.assertEqual((found, sorted(points)), (len(solutions), solutions))
        self.assertGreater(taken, 10)


class ListsTest(WrittenTest):
    def test_lists_are_new_each_time(self):
        kept = copy.deepcopy(fields(read_paper(self.space, CIRCLE)))
        first = read_paper(self.space, CIRCLE)
        first.rows[0][1].append(())
        first.rows.pop()
        first.points.clear()
        self.assertEqual(fields(read_paper(self.space, CIRCLE)), kept)

    def test_arguments_stay_as_they_were(self):
        system = circle()
        paper = paper_of(system, "lex")
        paper.rows.append((times(self.space, self.one("x"), self.one("x")), [(), ()]))
        kept = copy.deepcopy((fields(paper), system.equations, vars(self.space)))
        text = write_paper(self.space, paper)
        read_paper(self.space, text)
        audit(system, text)
        audit(system, CIRCLE)
        self.assertEqual((fields(paper), system.equations, vars(self.space)), kept)


if __name__ == "__main__":
    unittest.main()
