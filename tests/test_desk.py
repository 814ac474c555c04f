"""desk.py: points 14.1 and 14.2 of the document, and 0.3 and 0.5 for its methods."""

import copy
import random
import unittest

from helpers import SIZES, plain_solutions, plain_value, some_polynomials, space_of, well_formed
from standingpowers.bases import basis, remainder
from standingpowers.desk import Desk
from standingpowers.errors import DuplicateName, NoEquation, PowersError, UnknownName
from standingpowers.papers import Paper, accepts, paper_of
from standingpowers.polynomials import constant, minus, unknown
from standingpowers.reading import read_polynomial
from standingpowers.spaces import Space
from standingpowers.systems import System

QUESTIONS = ("paper", "count", "follows", "remainder")
SPACES = [Space(3, ["x", "y"]), Space(2, ["a", "b", "c"]), Space(5, ["t"])]


def polynomials_for(space):
    return some_polynomials(space.prime, space.count, 6, 3)


def asked(desk, question, name, space):
    """Put one of the questions that need a paper."""
    if question in ("paper", "count"):
        return getattr(desk, question)(name)
    return getattr(desk, question)(name, unknown(space, 0))


def shown_desk(desk):
    """All that can be seen of a desk without a paper."""
    systems = [(name, desk.system(name)) for name in desk.names()]
    return [(name, one.space.prime, one.space.names, one.equations) for name, one in systems]


class PlainDesk:
    """A desk by the words of point 14: it keeps the edits that stand, and does all of them anew for each question."""

    def __init__(self):
        self.stand, self.taken, self.papers, self.made = [], [], set(), 0

    def systems(self):
        found = {}
        for kind, name, thing in self.stand:
            if kind == "begin":
                found[name] = (thing, [])
            elif kind == "add":
                found[name][1].append(thing)
            elif kind == "drop":
                found[name][1].pop(thing)
            else:
                del found[name]
        return found

    def edit(self, kind, name, thing):
        found = self.systems()
        if kind == "begin" and name in found:
            return DuplicateName
        if kind != "begin" and name not in found:
            return UnknownName
        if kind == "drop" and thing not in range(len(found[name][1])):
            return NoEquation
        self.stand.append((kind, name, thing))
        self.taken = []
        self.papers.discard(name)
        return None

    def move(self, first, second):
        if not first:
            return False
        second.append(first.pop())
        self.papers.discard(second[-1][1])
        return True

    def ask(self, name):
        if name not in self.systems():
            return UnknownName
        if name not in self.papers:
            self.made += 1
            self.papers.add(name)
        return None

    def shown(self):
        found = self.systems()
        return [(name, found[name][0].prime, found[name][0].names, found[name][1]) for name in sorted(found)]


class DeskTest(unittest.TestCase):
    def setUp(self):
        self.space = Space(3, ["x", "y"])
        self.desk = Desk()

    def one(self, text):
        return read_polynomial(self.space, text)

    def equations(self, name):
        return self.desk.system(name).equations

    def put(self, name, *texts):
        self.desk.begin(name, self.space)
        for text in texts:
            self.desk.add(name, self.one(text))

    def assert_error(self, error, method, *arguments):
        """Whether a method raises an error, and changes nothing that can be seen."""
        kept = shown_desk(self.desk), self.desk.made
        with self.assertRaises(error) as caught:
            getattr(self.desk, method)(*arguments)
        self.assertIs(type(caught.exception), error)
        self.assertIsInstance(caught.exception, PowersError)
        self.assertEqual((shown_desk(self.desk), self.desk.made), kept)


class EditsTest(DeskTest):
    def test_a_new_desk(self):
        self.assertEqual((self.desk.made, self.desk.names()), (0, []))
        self.assertIs(self.desk.undo(), False)
        self.assertIs(self.desk.redo(), False)
        self.assertEqual(self.desk.names(), [])

    def test_begin(self):
        self.assertIsNone(self.desk.begin("b", self.space))
        self.assertIsNone(self.desk.begin("a", Space(2, ["u"])))
        self.assertEqual(self.desk.names(), ["a", "b"])
        found = self.desk.system("b")
        self.assertIs(type(found), System)
        self.assertEqual((found.space.prime, found.space.names, found.equations), (3, ["x", "y"], []))
        self.assertEqual(self.desk.system("a").space.names, ["u"])

    def test_names_are_ascending(self):
        names = ["b", "a10", "a", "zz", "a9", "ab", "z", "a1"]
        for name in names:
            self.desk.begin(name, self.space)
        self.assertEqual(self.desk.names(), sorted(names))

    def test_add(self):
        self.desk.begin("a", self.space)
        self.assertIsNone(self.desk.add("a", self.one("x")))
        self.desk.add("a", self.one("y"))
        self.desk.add("a", self.one("x"))
        self.desk.add("a", ())
        self.assertEqual(self.equations("a"), [self.one("x"), self.one("y"), self.one("x"), ()])

    def test_drop(self):
        self.put("a", "x", "y", "x + y", "x")
        self.assertIsNone(self.desk.drop("a", 1))
        self.assertEqual(self.equations("a"), [self.one(text) for text in ("x", "x + y", "x")])
        self.desk.drop("a", 2)
        self.assertEqual(self.equations("a"), [self.one("x"), self.one("x + y")])
        self.desk.drop("a", 0)
        self.desk.drop("a", 0)
        self.assertEqual(self.equations("a"), [])

    def test_close(self):
        self.put("a", "x")
        self.put("b", "y")
        self.assertIsNone(self.desk.close("a"))
        self.assertEqual(self.desk.names(), ["b"])
        self.assertEqual(self.equations("b"), [self.one("y")])

    def test_equations_of_several_systems(self):
        self.put("a", "x")
        self.put("b", "y")
        self.desk.add("a", self.one("x*y"))
        self.desk.drop("b", 0)
        self.assertEqual((self.equations("a"), self.equations("b")), ([self.one("x"), self.one("x*y")], []))


class ErrorsTest(DeskTest):
    def test_unknown_names(self):
        self.put("a", "x")
        for name in ("b", "aa", "system", "x"):
            self.assert_error(UnknownName, "add", name, self.one("x"))
            self.assert_error(UnknownName, "close", name)
            self.assert_error(UnknownName, "system", name)
            self.assert_error(UnknownName, "paper", name)
            self.assert_error(UnknownName, "count", name)
            self.assert_error(UnknownName, "follows", name, self.one("x"))
            self.assert_error(UnknownName, "remainder", name, self.one("x"))
            for index in (-1, 0, 1):
                # The name is looked for before the index.
                self.assert_error(UnknownName, "drop", name, index)

    def test_names_of_systems_that_are_closed_or_taken_back(self):
        self.put("a", "x")
        self.desk.close("a")
        self.assert_error(UnknownName, "add", "a", self.one("x"))
        self.assert_error(UnknownName, "count", "a")
        self.desk.begin("b", self.space)
        self.desk.undo()
        self.assert_error(UnknownName, "drop", "b", 0)
        self.assert_error(UnknownName, "close", "b")

    def test_duplicate_names(self):
        self.put("a", "x")
        self.assert_error(DuplicateName, "begin", "a", self.space)
        self.assert_error(DuplicateName, "begin", "a", Space(2, ["u"]))
        self.desk.close("a")
        self.desk.begin("a", Space(2, ["u"]))
        self.assert_error(DuplicateName, "begin", "a", self.space)
        self.assertEqual(self.desk.system("a").space.prime, 2)

    def test_indexes(self):
        self.put("a", "x", "y")
        self.put("b")
        for index in (-1, -2, -3, 2, 3, 10 ** 9, -10 ** 9):
            self.assert_error(NoEquation, "drop", "a", index)
        for index in (-1, 0, 1):
            self.assert_error(NoEquation, "drop", "b", index)

    def fail_in_each_way(self):
        self.assert_error(UnknownName, "add", "none", ())
        self.assert_error(UnknownName, "close", "none")
        self.assert_error(UnknownName, "drop", "none", 5)
        self.assert_error(UnknownName, "count", "none")
        self.assert_error(DuplicateName, "begin", "a", Space(2, ["u"]))
        self.assert_error(NoEquation, "drop", "a", -1)
        self.assert_error(NoEquation, "drop", "a", 5)

    def test_an_error_changes_nothing_of_what_may_be_undone_or_done_again(self):
        self.put("a", "x", "y")
        self.fail_in_each_way()
        self.assertIs(self.desk.undo(), True)
        self.assertEqual(self.equations("a"), [self.one("x")])
        self.fail_in_each_way()
        self.assertIs(self.desk.redo(), True)
        self.assertEqual(self.equations("a"), [self.one("x"), self.one("y")])
        self.fail_in_each_way()
        self.assertIs(self.desk.redo(), False)
        for _ in range(3):
            self.assertIs(self.desk.undo(), True)
        self.assertIs(self.desk.undo(), False)

    def test_an_error_leaves_the_kept_papers(self):
        self.put("a", "x", "y")
        self.desk.count("a")
        self.fail_in_each_way()
        self.desk.count("a")
        self.assertEqual(self.desk.made, 1)


class UndoTest(DeskTest):
    def test_each_edit(self):
        self.put("a", "x", "y", "x*y")
        steps = [shown_desk(self.desk)]
        for edit in (lambda: self.desk.begin("b", Space(2, ["u"])), lambda: self.desk.add("a", self.one("x + 1")),
                     lambda: self.desk.drop("a", 1), lambda: self.desk.add("b", unknown(Space(2, ["u"]), 0)),
                     lambda: self.desk.close("a"), lambda: self.desk.drop("b", 0)):
            edit()
            steps.append(shown_desk(self.desk))
        for _ in range(3):
            for before in steps[-2::-1]:
                self.assertIs(self.desk.undo(), True)
                self.assertEqual(shown_desk(self.desk), before)
            for behind in steps[1:]:
                self.assertIs(self.desk.redo(), True)
                self.assertEqual(shown_desk(self.desk), behind)
            self.assertIs(self.desk.redo(), False)
            self.assertEqual(shown_desk(self.desk), steps[-1])

    def test_nothing_left(self):
        self.put("a")
        self.assertIs(self.desk.redo(), False)
        self.assertIs(self.desk.undo(), True)
        self.assertIs(self.desk.undo(), False)
        self.assertIs(self.desk.undo(), False)
        self.assertEqual(self.desk.names(), [])
        self.assertIs(self.desk.redo(), True)
        self.assertIs(self.desk.redo(), False)
        self.assertEqual(self.desk.names(), ["a"])

    def test_a_new_edit_leaves_nothing_to_be_done_again(self):
        self.put("a", "x", "y")
        for edit in (lambda: self.desk.add("a", self.one("1")), lambda: self.desk.begin("b", self.space),
                     lambda: self.desk.drop("a", 0), lambda: self.desk.close("b")):
            self.desk.begin("c", self.space)
            self.desk.add("c", self.one("x"))
            self.assertIs(self.desk.undo(), True)
            self.assertIs(self.desk.undo(), True)
            edit()
            kept = shown_desk(self.desk)
            self.assertIs(self.desk.redo(), False)
            self.assertEqual(shown_desk(self.desk), kept)
            self.assertNotIn("c", self.desk.names())

    def test_undo_behind_a_new_edit(self):
        self.put("a", "x", "y")
        self.desk.undo()
        self.desk.add("a", self.one("x*y"))
        self.assertEqual(self.equations("a"), [self.one("x"), self.one("x*y")])
        self.desk.undo()
        self.assertEqual(self.equations("a"), [self.one("x")])
        self.desk.redo()
        self.assertEqual(self.equations("a"), [self.one("x"), self.one("x*y")])
        self.assertIs(self.desk.redo(), False)

    def test_across_several_systems(self):
        self.put("a", "x")
        self.put("b", "y")
        self.desk.add("a", self.one("x + 1"))
        self.desk.undo()
        self.assertEqual((self.equations("a"), self.equations("b")), ([self.one("x")], [self.one("y")]))
        self.desk.undo()
        self.assertEqual((self.equations("a"), self.equations("b")), ([self.one("x")], []))
        self.desk.undo()
        self.assertEqual(self.desk.names(), ["a"])
        self.desk.redo()
        self.desk.redo()
        self.assertEqual((self.equations("a"), self.equations("b")), ([self.one("x")], [self.one("y")]))

    def test_close_and_begin_under_the_same_name_with_another_space(self):
        self.put("a", "x", "y")
        other = Space(2, ["u", "v", "w"])
        self.desk.close("a")
        self.desk.begin("a", other)
        self.desk.add("a", unknown(other, 2))
        expected = [(other, [unknown(other, 2)]), (other, []), None, (self.space, [self.one("x"), self.one("y")]),
                    (self.space, [self.one("x")])]
        self.assert_is(expected[0])
        for wanted in expected[1:]:
            self.assertIs(self.desk.undo(), True)
            self.assert_is(wanted)
        for wanted in expected[-2::-1]:
            self.assertIs(self.desk.redo(), True)
            self.assert_is(wanted)

    def assert_is(self, wanted):
        """Whether the system with the name a has a space and equations, or is not there."""
        if wanted is None:
            self.assertEqual(self.desk.names(), [])
            return
        found = self.desk.system("a")
        self.assertEqual((found.space.prime, found.space.names, found.equations),
                         (wanted[0].prime, wanted[0].names, wanted[1]))
        self.assertEqual(self.desk.count("a"), len(plain_solutions(System(*wanted))))

    def test_a_dropped_equation_comes_back_at_its_place(self):
        texts = ["x", "y", "x", "x*y", "x + y"]
        for index in range(5):
            self.desk = Desk()
            self.put("a", *texts)
            self.desk.drop("a", index)
            self.assertEqual(self.equations("a"), [self.one(text) for text in texts[:index] + texts[index + 1:]])
            self.desk.undo()
            self.assertEqual(self.equations("a"), [self.one(text) for text in texts])
            self.desk.redo()
            self.assertEqual(self.equations("a"), [self.one(text) for text in texts[:index] + texts[index + 1:]])


class MadeTest(DeskTest):
    def assert_made(self, many):
        self.assertEqual(self.desk.made, many)

    def test_only_four_questions_need_a_paper(self):
        self.put("a", "x", "y")
        self.desk.drop("a", 0)
        self.desk.names()
        self.desk.system("a")
        self.desk.undo()
        self.desk.redo()
        self.put("b")
        self.desk.close("b")
        self.assert_made(0)

    def test_each_question_makes_one_and_only_one(self):
        for question in QUESTIONS:
            self.desk = Desk()
            self.put("a", "x")
            asked(self.desk, question, "a", self.space)
            self.assert_made(1)
            for other in QUESTIONS + QUESTIONS:
                asked(self.desk, other, "a", self.space)
                self.desk.system("a")
                self.desk.names()
            self.assert_made(1)

    def test_edits_of_the_same_system(self):
        for question in QUESTIONS:
            self.desk = Desk()
            self.put("a", "x")
            many = 0
            for edit in (lambda: self.desk.add("a", self.one("y")), lambda: self.desk.drop("a", 1), self.desk.undo,
                         self.desk.undo, self.desk.redo, self.desk.redo, lambda: self.desk.add("a", ())):
                self.assertIsNot(edit(), False)
                self.assert_made(many)
                asked(self.desk, question, "a", self.space)
                many += 1
                self.assert_made(many)
                asked(self.desk, question, "a", self.space)
                self.assert_made(many)

    def test_edits_of_another_system(self):
        self.put("a", "x")
        self.put("b", "y")
        self.desk.count("a")
        self.assert_made(1)
        for edit in (lambda: self.desk.add("b", self.one("x")), lambda: self.desk.drop("b", 0), self.desk.undo,
                     self.desk.redo, lambda: self.desk.close("b"), self.desk.undo, self.desk.redo,
                     lambda: self.desk.begin("c", self.space)):
            edit()
            for question in QUESTIONS:
                asked(self.desk, question, "a", self.space)
            self.assert_made(1)

    def test_undo_edits_the_system_of_the_edit(self):
        self.put("a", "x")
        self.put("b", "y")
        self.desk.count("a")
        self.desk.count("b")
        self.assert_made(2)
        self.desk.undo()
        self.desk.count("a")
        self.assert_made(2)
        self.desk.count("b")
        self.assert_made(3)
        self.desk.redo()
        self.desk.count("a")
        self.assert_made(3)
        self.desk.count("b")
        self.assert_made(4)

    def test_a_system_that_comes_back_needs_a_new_paper(self):
        self.put("a", "x")
        self.desk.count("a")
        self.desk.close("a")
        self.desk.undo()
        self.assert_made(1)
        self.assertEqual(self.desk.count("a"), 3)
        self.assert_made(2)
        self.desk.redo()
        self.desk.begin("a", Space(2, ["u"]))
        self.assertEqual(self.desk.count("a"), 2)
        self.assert_made(3)
        self.desk.undo()
        self.desk.undo()
        self.assertEqual(self.desk.count("a"), 3)
        self.assert_made(4)

    def test_what_changes_nothing_leaves_the_paper(self):
        self.put("a", "x")
        self.desk.count("a")
        self.assertIs(self.desk.redo(), False)
        self.desk.count("a")
        self.assert_made(1)
        for _ in range(2):
            self.desk.undo()
        self.assertIs(self.desk.undo(), False)
        self.assert_made(1)

    def test_nothing_is_made_for_a_name_that_is_unknown(self):
        self.put("a", "x")
        for question in QUESTIONS:
            with self.assertRaises(UnknownName):
                asked(self.desk, question, "b", self.space)
        self.assert_made(0)


class QuestionsTest(DeskTest):
    def test_all_questions(self):
        for prime, count in SIZES:
            space = space_of(prime, count)
            polynomials = some_polynomials(prime, count, 8, 4)
            point = (prime - 1,) * count
            shifted = [minus(space, one, constant(space, plain_value(prime, one, point))) for one in polynomials]
            for equations in ([], [()], [constant(space, 1)], shifted[3:4], shifted[3:6], polynomials[3:5]):
                self.assert_answers(space, equations, polynomials + shifted)

    def assert_answers(self, space, equations, polynomials):
        desk = Desk()
        desk.begin("a", space)
        for one in equations:
            desk.add("a", one)
        system = desk.system("a")
        self.assertEqual(system.equations, equations)
        solutions = plain_solutions(system)
        self.assertEqual(desk.count("a"), len(solutions))
        paper = desk.paper("a")
        self.assertIs(type(paper), Paper)
        self.assertEqual((paper.order, paper.points), ("degree", solutions))
        divisors = basis(space, solutions, "degree")
        self.assertEqual([row[0] for row in paper.rows], divisors)
        self.assertIs(accepts(system, paper), True)
        for one in polynomials:
            follows = all(plain_value(space.prime, one, point) == 0 for point in solutions)
            self.assertIs(desk.follows("a", one), follows)
            left = desk.remainder("a", one)
            self.assertTrue(well_formed(space.prime, space.count, left))
            self.assertEqual(left, remainder(space, one, divisors, "degree"))
        self.assertEqual(desk.made, 1)

    def test_the_questions_see_the_edits(self):
        self.put("a")
        self.assertEqual(self.desk.count("a"), 9)
        self.assertIs(self.desk.follows("a", self.one("x")), False)
        self.desk.add("a", self.one("x"))
        self.assertEqual(self.desk.count("a"), 3)
        self.assertIs(self.desk.follows("a", self.one("x*y")), True)
        self.assertEqual(self.desk.remainder("a", self.one("x + y + 1")), self.one("y + 1"))
        self.desk.add("a", self.one("y - 1"))
        self.assertEqual(self.desk.remainder("a", self.one("x + y + 1")), self.one("2"))
        self.assertEqual(self.desk.paper("a").points, [(0, 1)])
        self.desk.add("a", self.one("1"))
        self.assertEqual((self.desk.count("a"), self.desk.remainder("a", self.one("x + 1"))), (0, ()))
        self.desk.undo()
        self.desk.undo()
        self.assertEqual(self.desk.count("a"), 3)
        self.desk.drop("a", 0)
        self.assertEqual(self.desk.count("a"), 9)


class HandedOutTest(DeskTest):
    def test_a_system_that_was_handed_out_does_not_change(self):
        self.put("a", "x")
        before = self.desk.system("a")
        self.desk.add("a", self.one("y"))
        behind = self.desk.system("a")
        self.desk.drop("a", 0)
        self.desk.undo()
        self.desk.undo()
        self.desk.close("a")
        self.assertEqual((before.equations, behind.equations), ([self.one("x")], [self.one("x"), self.one("y")]))
        self.assertEqual((len(before.solutions()), behind.solutions()), (3, [(0, 0)]))

    def test_a_paper_that_was_handed_out_does_not_change(self):
        self.put("a", "x")
        system, paper = self.desk.system("a"), self.desk.paper("a")
        kept = copy.deepcopy((paper.order, paper.rows, paper.points))
        self.desk.add("a", self.one("y"))
        self.desk.paper("a")
        self.desk.close("a")
        self.assertEqual((paper.order, paper.rows, paper.points), kept)
        self.assertIs(accepts(system, paper), True)

    def test_changing_what_was_handed_out_changes_nothing(self):
        self.put("a", "x", "y*x")
        expected = paper_of(self.desk.system("a"), "degree")
        for _ in range(3):
            found = self.desk.system("a")
            self.assertEqual(found.equations, [self.one("x"), self.one("y*x")])
            found.equations.append(self.one("1"))
            found.equations[0] = ()
            paper = self.desk.paper("a")
            self.assertEqual([row[0] for row in paper.rows], [row[0] for row in expected.rows])
            self.assertEqual(paper.points, expected.points)
            self.assertIs(accepts(self.desk.system("a"), paper), True)
            for row in paper.rows:
                row[1].clear()
            paper.rows.clear()
            paper.points.append((1, 1))
            names = self.desk.names()
            self.assertEqual(names, ["a"])
            names.append("b")
            self.assertEqual(self.desk.count("a"), 3)
            self.assertIs(self.desk.follows("a", self.one("x")), True)
            self.assertEqual(self.desk.remainder("a", self.one("x + y")), self.one("y"))
        self.assertEqual(self.desk.made, 1)

    def test_changing_what_was_handed_in_changes_nothing(self):
        names = ["x", "y"]
        space = Space(3, names)
        self.desk.begin("a", space)
        self.desk.add("a", unknown(space, 1))
        names.append("z")
        self.assertEqual(self.desk.system("a").space.names, ["x", "y"])
        self.assertEqual(self.desk.count("a"), 3)

    def test_arguments_stay_as_they_were(self):
        kept = copy.deepcopy(vars(self.space))
        self.put("a", "x", "y")
        self.desk.drop("a", 0)
        for question in QUESTIONS:
            asked(self.desk, question, "a", self.space)
        self.desk.undo()
        self.desk.close("a")
        self.assertEqual(vars(self.space), kept)

    def test_two_desks_share_nothing(self):
        other = Desk()
        self.put("a", "x")
        self.desk.count("a")
        self.assertEqual((other.names(), other.made, other.undo()), ([], 0, False))
        other.begin("a", Space(2, ["u"]))
        self.assertEqual(self.desk.system("a").space.prime, 3)


class LimitsTest(DeskTest):
    def test_20_systems(self):
        names = [f"s{number}" for number in range(20)]
        for number, name in enumerate(names):
            self.put(name, *["x - 1", "y", "x*y"][:number % 4])
        self.assertEqual(self.desk.names(), sorted(names))
        for _ in range(2):
            for number, name in enumerate(names):
                self.assertEqual(self.desk.count(name), [9, 3, 1, 1][number % 4])
        self.assertEqual(self.desk.made, 20)
        while self.desk.undo():
            pass
        self.assertEqual(self.desk.names(), [])
        while self.desk.redo():
            pass
        self.assertEqual(self.desk.names(), sorted(names))
        self.assertEqual(self.desk.made, 20)

    def test_20_equations(self):
        self.put("a", *["x - y"] * 20)
        self.assertEqual(self.equations("a"), [self.one("x - y")] * 20)
        self.assertEqual((self.desk.count("a"), len(self.desk.paper("a").rows[0][1])), (3, 20))

    def test_500_edits(self):
        chance = random.Random(14)
        steps = [shown_desk(self.desk)]
        counts = {"a": 0, "b": 0}
        for _ in range(500):
            name = chance.choice("ab")
            if name not in self.desk.names():
                self.desk.begin(name, chance.choice(SPACES))
                counts[name] = 0
            elif chance.random() < 0.05:
                self.desk.close(name)
            elif counts[name] < 20 and (counts[name] == 0 or chance.random() < 0.6):
                self.desk.add(name, chance.choice(polynomials_for(self.desk.system(name).space)))
                counts[name] += 1
            else:
                self.desk.drop(name, chance.randrange(counts[name]))
                counts[name] -= 1
            steps.append(shown_desk(self.desk))
        for _ in range(2):
            for before in steps[-2::-1]:
                self.assertIs(self.desk.undo(), True)
                self.assertEqual(shown_desk(self.desk), before)
            self.assertIs(self.desk.undo(), False)
            for behind in steps[1:]:
                self.assertIs(self.desk.redo(), True)
                self.assertEqual(shown_desk(self.desk), behind)
            self.assertIs(self.desk.redo(), False)


class ByChanceTest(unittest.TestCase):
    def test_like_the_words_of_the_document(self):
        for seed in range(60):
            chance = random.Random(seed)
            desk, plain = Desk(), PlainDesk()
            for _ in range(80):
                self.do(chance, desk, plain)
                self.assertEqual(shown_desk(desk), plain.shown())
                self.assertEqual((desk.names(), desk.made), (sorted(plain.systems()), plain.made))

    def do(self, chance, desk, plain):
        """One edit or question by chance, on a desk and on its plain model."""
        kind = chance.choice(["begin", "add", "add", "add", "drop", "close", "undo", "undo", "redo", "redo", "ask"])
        name = chance.choice(["a", "b", "c"])
        if kind == "undo":
            self.assertIs(desk.undo(), plain.move(plain.stand, plain.taken))
        elif kind == "redo":
            self.assertIs(desk.redo(), plain.move(plain.taken, plain.stand))
        elif kind == "ask":
            space = plain.systems().get(name, SPACES)[0]
            self.assert_like(plain.ask(name), lambda: asked(desk, chance.choice(QUESTIONS), name, space))
        else:
            if kind == "begin":
                thing = chance.choice(SPACES)
            elif kind == "add":
                thing = chance.choice(polynomials_for(plain.systems().get(name, SPACES)[0]))
            elif kind == "drop":
                thing = chance.randrange(-2, 4)
            else:
                thing = None
            arguments = (name,) if kind == "close" else (name, thing)
            self.assert_like(plain.edit(kind, name, thing), lambda: getattr(desk, kind)(*arguments))

    def assert_like(self, error, act):
        if error is None:
            act()
        else:
            with self.assertRaises(error):
                act()


if __name__ == "__main__":
    unittest.main()
