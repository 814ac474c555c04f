"""The interface: names, arguments and the files in which they are defined; the form of the package."""

import ast
import builtins
import importlib
import inspect
import pathlib
import unittest

PACKAGE = pathlib.Path(__file__).resolve().parent.parent / "standingpowers"

FUNCTIONS = {
    "spaces": {
        "inverse": ["prime", "number"],
        "is_name": ["text"],
        "degree_of": ["power"],
        "divides": ["one", "other"],
        "is_less": ["order", "one", "other"],
        "value_of": ["space", "power", "point"],
    },
    "polynomials": {
        "is_polynomial": ["space", "thing"],
        "constant": ["space", "number"],
        "unknown": ["space", "index"],
        "plus": ["space", "one", "other"],
        "minus": ["space", "one", "other"],
        "times": ["space", "one", "other"],
        "scaled": ["space", "one", "number"],
        "raised": ["space", "one", "exponent"],
        "value": ["space", "one", "point"],
        "degree": ["one"],
        "leading": ["one", "order"],
        "number_of": ["one", "power"],
        "speaks_of": ["space", "one"],
        "replaced": ["first", "one", "second", "polynomials"],
    },
    "tables": {
        "table_of": ["space", "one"],
        "polynomial_of": ["space", "table"],
    },
    "reading": {
        "read_polynomial": ["space", "text"],
        "write_polynomial": ["space", "one"],
        "read_system": ["text"],
        "write_system": ["system"],
    },
    "systems": {
        "factors": ["system", "one"],
        "shown": ["system", "one", "factors"],
    },
    "bases": {
        "stand_over": ["space", "polynomials", "order"],
        "divided": ["space", "one", "polynomials", "order"],
        "remainder": ["space", "one", "polynomials", "order"],
        "standing": ["space", "points", "order"],
        "basis": ["space", "points", "order"],
        "with_values": ["space", "points", "values", "order"],
        "separators": ["space", "points", "order"],
        "growth": ["space", "points"],
    },
    "papers": {
        "paper_of": ["system", "order"],
        "accepts": ["system", "paper"],
    },
    "following": {
        "follows": ["system", "one"],
        "judge_follows": ["system", "one", "answer"],
    },
    "shadows": {
        "shadow": ["system", "names"],
        "lift": ["system", "names", "point"],
        "shadow_basis": ["space", "polynomials", "k"],
    },
    "formulas": {
        "formula": ["system", "name", "names"],
        "judge_formula": ["system", "name", "names", "answer"],
    },
    "sets": {
        "mark": ["system"],
        "both": ["one", "other"],
        "either": ["one", "other"],
        "without": ["one", "other"],
        "opposite": ["one"],
        "compare": ["one", "other"],
        "judge_compare": ["one", "other", "answer"],
    },
    "maps": {
        "led": ["first", "polynomials", "point"],
        "image": ["system", "second", "polynomials"],
        "origin": ["first", "polynomials", "system"],
        "way_back": ["system", "second", "polynomials"],
        "judge_back": ["system", "second", "polynomials", "answer"],
    },
    "lamps": {
        "lamps": ["prime", "neighbours", "start", "goal"],
        "least_way": ["prime", "neighbours", "start", "goal"],
        "colourings": ["prime", "count", "edges"],
    },
    "circuits": {
        "read_circuit": ["text"],
        "write_circuit": ["circuit"],
        "outputs_at": ["circuit", "point"],
        "polynomials_of": ["circuit"],
        "compare_circuits": ["one", "other"],
    },
    "written": {
        "write_paper": ["space", "paper"],
        "read_paper": ["space", "text"],
        "audit": ["system", "text"],
    },
    "sentences": {
        "is_true": ["space", "sentence", "point"],
        "polynomial_of_sentence": ["space", "sentence"],
        "system_of": ["space", "sentences"],
        "read_sentence": ["space", "text"],
        "write_sentence": ["space", "sentence"],
    },
    "lean": {
        "is_needless": ["system", "index"],
        "lean": ["system"],
        "judge_lean": ["system", "indexes"],
    },
    "machines": {
        "check_safe": ["machine", "bad"],
        "judge_safe": ["machine", "bad", "answer"],
    },
}

# For each class the arguments with which it is made, and its methods with theirs.
CLASSES = {
    "errors": {
        "SyntaxFault": (["line", "column"], {}),
        "InvalidSystem": (["line"], {}),
        "InvalidCircuit": (["line"], {}),
        "InvalidPaper": (["line"], {}),
    },
    "spaces": {
        "Space": (["prime", "names"],
                  {"points": [], "powers": ["order"], "is_point": ["thing"], "zero": []}),
    },
    "systems": {
        "System": (["space", "equations"], {"is_solution": ["point"], "solutions": []}),
    },
    "papers": {
        "Paper": (["order", "rows", "points"], {}),
    },
    "circuits": {
        "Circuit": (["inputs", "gates", "outputs"], {}),
    },
    "desk": {
        "Desk": ([], {"begin": ["name", "space"], "add": ["name", "one"], "drop": ["name", "index"], "close": ["name"],
                      "undo": [], "redo": [], "names": [], "system": ["name"], "paper": ["name"], "count": ["name"],
                      "follows": ["name", "one"], "remainder": ["name", "one"]}),
    },
    "codes": {
        "Code": (["space", "points", "most"], {"carriers": [], "word": ["numbers"], "numbers": ["values"],
                                               "distance": [], "nearest": ["values"]}),
    },
    "machines": {
        "Machine": (["start", "step"], {"after": ["point"], "reached": [], "way": ["point"]}),
    },
}

# All builtins that the package may use: none that reads a clock, a file or anything else from outside.
BUILTINS = ["ValueError", "all", "any", "dict", "enumerate", "int", "len", "list", "max", "min", "range", "reversed",
            "set", "sorted", "str", "sum", "tuple", "zip"]


def arguments_of(thing):
    return list(inspect.signature(thing).parameters)


class InterfaceTest(unittest.TestCase):
    def test_objects_have_no_equality_of_their_own(self):
        for file, classes in CLASSES.items():
            module = importlib.import_module("standingpowers." + file)
            for name in classes:
                self.assertIs(getattr(module, name).__eq__, object.__eq__)

    def test_functions(self):
        for file, functions in FUNCTIONS.items():
            module = importlib.import_module("standingpowers." + file)
            for name, arguments in functions.items():
                with self.subTest(file=file, name=name):
                    function = getattr(module, name)
                    self.assertEqual(function.__module__, module.__name__)
                    self.assertEqual(arguments_of(function), arguments)

    def test_classes(self):
        for file, classes in CLASSES.items():
            module = importlib.import_module("standingpowers." + file)
            for name, (arguments, methods) in classes.items():
                with self.subTest(file=file, name=name):
                    kind = getattr(module, name)
                    self.assertEqual(kind.__module__, module.__name__)
                    self.assertEqual(arguments_of(kind), arguments)
                    for method, its_arguments in methods.items():
                        self.assertIn(method, vars(kind))
                        self.assertEqual(arguments_of(vars(kind)[method]), ["self"] + its_arguments)


class FormTest(unittest.TestCase):
    def files(self):
        return sorted(PACKAGE.rglob("*.py"))

    def test_files(self):
        for path in PACKAGE.rglob("*"):
            if path.is_file() and "__pycache__" not in path.parts:
                self.assertEqual(path.suffix, ".py", path)
        self.assertTrue((PACKAGE / "__init__.py").is_file())

    def test_sizes_and_characters(self):
        for path in self.files():
            text = path.read_bytes().decode("ascii")
            lines = text.split("\n")
            self.assertLessEqual(len(lines), 399, path)
            self.assertLessEqual(max(len(line) for line in lines), 120, path)
            self.assertTrue(all(sign == "\n" or " " <= sign <= "~" for sign in text), path)

    def test_functions_are_small(self):
        for path in self.files():
            for node in ast.walk(ast.parse(path.read_text())):
                if isinstance(node, ast.FunctionDef):
                    self.assertLessEqual(node.end_lineno - node.lineno + 1, 40, (path, node.name))

    def test_builtins(self):
        for path in self.files():
            for node in ast.walk(ast.parse(path.read_text())):
                if isinstance(node, ast.Name) and node.id in dir(builtins):
                    self.assertIn(node.id, BUILTINS, (path, node.lineno))

    def test_imports(self):
        library = ("heapq", "math", "itertools", "collections")
        for path in self.files():
            for node in ast.walk(ast.parse(path.read_text())):
                self.assertNotIsInstance(node, ast.Import, path)
                if isinstance(node, ast.ImportFrom):
                    self.assertEqual(node.level, 0, path)
                    self.assertTrue(node.module in library or node.module.startswith("standingpowers."), path)


if __name__ == "__main__":
    unittest.main()
