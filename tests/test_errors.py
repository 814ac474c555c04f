"""errors.py: the classes, their base classes, and where a fault is."""

import unittest

from standingpowers import errors

PLAIN = ["InvalidSpace", "UnknownName", "DuplicateName", "NoEquation"]
WITH_LINE = ["InvalidSystem", "InvalidCircuit", "InvalidPaper"]
ALL = PLAIN + WITH_LINE + ["SyntaxFault"]


class ErrorsTest(unittest.TestCase):
    def test_base_class(self):
        self.assertEqual(errors.PowersError.__bases__, (ValueError,))

    def test_each_error_has_only_this_base_class(self):
        for name in ALL:
            with self.subTest(name=name):
                kind = getattr(errors, name)
                self.assertEqual(kind.__name__, name)
                self.assertEqual(kind.__bases__, (errors.PowersError,))
                self.assertEqual(kind.__module__, "standingpowers.errors")

    def test_none_is_a_kind_of_another_one(self):
        for name in ALL:
            for other in ALL:
                if name != other:
                    self.assertFalse(issubclass(getattr(errors, name), getattr(errors, other)))

    def test_plain_errors_take_a_message(self):
        for name in PLAIN + ["PowersError"]:
            with self.subTest(name=name):
                with self.assertRaises(ValueError) as caught:
                    raise getattr(errors, name)("words")
                self.assertEqual(str(caught.exception), "words")

    def test_errors_with_a_line(self):
        for name in WITH_LINE:
            kind = getattr(errors, name)
            for error in (kind(17), kind(line=17)):
                with self.subTest(name=name):
                    self.assertIsInstance(error, errors.PowersError)
                    self.assertEqual(error.line, 17)

    def test_syntax_fault_has_line_and_column(self):
        for error in (errors.SyntaxFault(3, 5), errors.SyntaxFault(column=5, line=3)):
            self.assertIsInstance(error, errors.PowersError)
            self.assertEqual((error.line, error.column), (3, 5))

    def test_messages_name_the_place(self):
        self.assertIn("17", str(errors.InvalidPaper(17)))
        self.assertIn("line 3, column 5", str(errors.SyntaxFault(3, 5)))


if __name__ == "__main__":
    unittest.main()
