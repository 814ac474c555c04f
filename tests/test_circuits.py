"""circuits.py: points 13.1 and 13.2 of the document, and 0.3, 0.4 and 0.5 for its functions."""

import copy
import itertools
import random
import re
import unittest

from helpers import all_tuples, changed_text, plain_table, well_formed
from standingpowers.circuits import (Circuit, compare_circuits, outputs_at, polynomials_of, read_circuit,
                                     write_circuit)
from standingpowers.errors import InvalidCircuit, PowersError
from standingpowers.reading import read_polynomial
from standingpowers.spaces import Space

NAME = re.compile(r"[a-z][a-z0-9]{0,11}")
GATE = re.compile(r"(\S+) = (?:(not) (\S+)|(and|or|xor) (\S+) (\S+))")
WORDS = ["not", "and", "or", "xor", "inputs", "outputs"]

ADDER = "\n".join(["inputs a b c", "ab = xor a b", "sum = xor ab c", "both = and a b", "more = and ab c",
                   "carry = or both more", "outputs sum carry"])


def plain_read(text):
    """The inputs, gates and outputs of a text by the words of point 13.1, or the number of the wrong line."""
    lines = text.split("\n")
    if not re.fullmatch(r"inputs( \S+){1,8}", lines[0]):
        return 1
    inputs = lines[0].split(" ")[1:]
    if len(set(inputs)) < len(inputs) or not all(NAME.fullmatch(name) for name in inputs):
        return 1
    known, gates = list(inputs), []
    for number, line in enumerate(lines[1:], 2):
        if line.split(" ")[1:2] == ["="]:
            found = GATE.fullmatch(line)
            if not found or not NAME.fullmatch(found[1]) or found[1] in known:
                return number
            operands = tuple(name for name in (found[3], found[5], found[6]) if name)
            if any(name not in known for name in operands):
                return number
            known.append(found[1])
            gates.append((found[1], found[2] or found[4], operands))
        else:
            if not re.fullmatch(r"outputs( \S+)+", line) or any(name not in known for name in line.split(" ")[1:]):
                return number
            if number < len(lines):
                return number + 1
            return inputs, gates, line.split(" ")[1:]
    return len(lines) + 1


def plain_outputs(circuit, point):
    """The outputs by the truth of the gates."""
    truths = {name: number == 1 for name, number in zip(circuit.inputs, point)}
    for name, kind, operands in circuit.gates:
        chosen = [truths[operand] for operand in operands]
        if kind == "not":
            truths[name] = not chosen[0]
        elif kind == "and":
            truths[name] = all(chosen)
        elif kind == "or":
            truths[name] = any(chosen)
        else:
            truths[name] = chosen[0] != chosen[1]
    return [1 if truths[name] else 0 for name in circuit.outputs]


def some_circuit(chance, inputs, gates, outputs):
    """A circuit by chance with so many inputs, gates and outputs."""
    names = [f"i{at}" for at in range(inputs)]
    known, made = list(names), []
    for at in range(gates):
        kind = chance.choice(["not", "and", "or", "xor"])
        operands = tuple(chance.choice(known) for _ in range(1 if kind == "not" else 2))
        known.append(f"g{at}")
        made.append((f"g{at}", kind, operands))
    return Circuit(names, made, [chance.choice(known[::-1][:8]) for _ in range(outputs)])


def fields(circuit):
    return circuit.inputs, circuit.gates, circuit.outputs


class CircuitTest(unittest.TestCase):
    def assert_read(self, text, inputs, gates, outputs):
        circuit = read_circuit(text)
        self.assertIs(type(circuit), Circuit)
        self.assertEqual(fields(circuit), (inputs, gates, outputs))
        for thing in fields(circuit):
            self.assertIs(type(thing), list)
        for gate in circuit.gates:
            self.assertEqual((type(gate), type(gate[2])), (tuple, tuple))
        self.assertEqual(write_circuit(circuit), text)
        return circuit

    def assert_invalid(self, text, line):
        with self.assertRaises(InvalidCircuit, msg=repr(text)) as caught:
            read_circuit(text)
        self.assertEqual(caught.exception.line, line, repr(text))
        self.assertIsInstance(caught.exception, PowersError)


class FieldsTest(unittest.TestCase):
    def test_fields(self):
        circuit = Circuit(["a", "b"], [("c", "and", ("a", "b")), ("d", "not", ("c",))], ["d", "a", "d"])
        self.assertEqual(circuit.inputs, ["a", "b"])
        self.assertEqual(circuit.gates, [("c", "and", ("a", "b")), ("d", "not", ("c",))])
        self.assertEqual(circuit.outputs, ["d", "a", "d"])

    def test_it_copies_its_lists(self):
        inputs, gates, outputs = ["a"], [("b", "not", ("a",))], ["b"]
        circuit = Circuit(inputs, gates, outputs)
        inputs.append("c")
        gates.append(("d", "not", ("c",)))
        outputs.clear()
        self.assertEqual(fields(circuit), (["a"], [("b", "not", ("a",))], ["b"]))


class ReadingTest(CircuitTest):
    def test_without_gates(self):
        self.assert_read("inputs a\noutputs a", ["a"], [], ["a"])
        self.assert_read("inputs a b\noutputs b b a", ["a", "b"], [], ["b", "b", "a"])

    def test_each_kind(self):
        self.assert_read("inputs a b\nc = not a\nd = and c b\ne = or d d\nf = xor a e\noutputs f", ["a", "b"],
                         [("c", "not", ("a",)), ("d", "and", ("c", "b")), ("e", "or", ("d", "d")),
                          ("f", "xor", ("a", "e"))], ["f"])

    def test_one_input_and_eight(self):
        for many in range(1, 9):
            names = list("abcdefgh")[:many]
            self.assert_read(f"inputs {' '.join(names)}\noutputs a", names, [], ["a"])
        self.assert_invalid("inputs a b c d e f g h i\noutputs a", 1)

    def test_60_gates(self):
        chance = random.Random(60)
        for inputs in (1, 3, 8):
            circuit = some_circuit(chance, inputs, 60, 5)
            self.assert_read(write_circuit(circuit), *fields(circuit))

    def test_names_are_words_of_the_text(self):
        for one, other in itertools.permutations(WORDS, 2):
            self.assert_read(f"inputs {one}\n{other} = not {one}\noutputs {other} {one}",
                             [one], [(other, "not", (one,))], [other, one])
        gates = [("and", "not", ("not",)), ("or", "and", ("and", "not")), ("xor", "xor", ("or", "and")),
                 ("inputs", "or", ("xor", "not")), ("outputs", "and", ("inputs", "xor"))]
        lines = ["inputs not"] + [f"{name} = {kind} {' '.join(operands)}" for name, kind, operands in gates]
        circuit = self.assert_read("\n".join(lines + ["outputs outputs outputs inputs"]), ["not"], gates,
                                   ["outputs", "outputs", "inputs"])
        for point in ((0,), (1,)):
            self.assertEqual(outputs_at(circuit, point), plain_outputs(circuit, point))

    def test_long_names(self):
        long = "a2345678901b"
        self.assert_read(f"inputs {long}\nb = not {long}\noutputs b {long}", [long], [("b", "not", (long,))],
                         ["b", long])
        self.assert_invalid(f"inputs {long}c\noutputs {long}c", 1)
        self.assert_invalid(f"inputs a\n{long}c = not a\noutputs a", 2)

    def test_circuits_by_chance(self):
        chance = random.Random(1)
        for _ in range(200):
            circuit = some_circuit(chance, chance.randrange(1, 9), chance.randrange(12), chance.randrange(1, 6))
            text = write_circuit(circuit)
            self.assertEqual(plain_read(text), fields(circuit))
            self.assert_read(text, *fields(circuit))

    def test_writing(self):
        circuit = Circuit(["a", "b"], [("c", "xor", ("b", "a")), ("d", "not", ("c",))], ["d", "d"])
        self.assertEqual(write_circuit(circuit), "inputs a b\nc = xor b a\nd = not c\noutputs d d")
        self.assertEqual(write_circuit(read_circuit(ADDER)), ADDER)


class WrongLinesTest(CircuitTest):
    def test_empty_texts(self):
        for text in ("", "\n", "\n\n", " ", "\ninputs a\noutputs a"):
            self.assert_invalid(text, 1)

    def test_first_lines(self):
        for first in ("inputs", "inputs ", "inputs  a", " inputs a", "inputs a ", "inputs a  b", "inputs\ta",
                      "inputs a\tb", "inputs a\t", "inputs a a", "inputs a b a", "inputs A", "inputs a B", "inputs 1",
                      "inputs a 1a", "inputs a,b", "inputs a_b", "inputs a-b", "input a", "Inputs a", "inputsa", "a",
                      "inputs = not a", "inputs abcdefghijklm", "outputs a", "a = not a",
                      "inputs a b c d e f g h i", "inputs a b c d e f g h a"):
            self.assert_invalid(first, 1)
            self.assert_invalid(first + "\noutputs a", 1)
            self.assert_invalid(first + "\nb = not a\noutputs b", 1)

    def test_lines_of_gates(self):
        for line in ("c = not", "c = not ", "c = not a b", "c = and a", "c = and a b a", "c = and", "c = or a",
                     "c = or a b b", "c = xor a", "c = xor", "c = nand a b", "c = a", "c = a b", "c = Not a", "c =",
                     "c = ", "c = and  a b", "c = and a  b", "c =  and a b", "c = and a b ", "c = not a ",
                     "c = and a\tb", "c = not\ta", "c = not a\t", "c = not d", "c = and a d", "c = and d a",
                     "c = xor d d", "c = not c", "c = or a c", "c = or later a", "a = not a", "a = not b",
                     "b = and a a", "early = not a", "C = not a", "1 = not a", "1c = not a", "c_ = not a", " = not a",
                     "abcdefghijklm = not a", "= = not a", "c = not A", "c = = a", "c = and = a", "c = inputs a",
                     "c = outputs a b"):
            head = "inputs a b\nearly = not b\n"
            self.assert_invalid(head + line, 3)
            self.assert_invalid(head + line + "\noutputs a", 3)
            self.assert_invalid(head + line + "\nlater = not a\noutputs early", 3)
            self.assert_invalid("inputs a b\nother = not a\nearly = xor a other\n" + line + "\n", 4)

    def test_lines_that_are_neither(self):
        for line in ("", " ", "c", "c  = not a", " c = not a", "c\t= not a", "c\t=\tnot a", "c=not a", "c= not a",
                     "c := not a", "c == not a", "not a", "and a b", "inputs c", "inputs a b", "outputs", "outputs ",
                     "outputs  a", "outputs a ", "outputs a  b", " outputs a", "outputs\ta", "outputs a\tb",
                     "outputs a\t", "outputs c", "outputs a c", "outputs c a", "outputs A", "Outputs a", "output a",
                     "outputsa", "outputs a =", "outputs a, b"):
            head = "inputs a b\nearly = not b\n"
            self.assert_invalid(head + line, 3)
            self.assert_invalid(head + line + "\noutputs a", 3)
            self.assert_invalid("inputs a b\n" + line, 2)

    def test_a_gate_whose_name_is_that_of_another_line(self):
        self.assert_invalid("inputs a\noutputs = not b\noutputs outputs", 2)
        self.assert_invalid("inputs a\noutputs = \noutputs a", 2)
        self.assert_read("inputs a\noutputs = not a\noutputs outputs", ["a"], [("outputs", "not", ("a",))], ["outputs"])
        self.assert_read("inputs a\ninputs = not a\noutputs inputs", ["a"], [("inputs", "not", ("a",))], ["inputs"])

    def test_without_outputs(self):
        self.assert_invalid("inputs a", 2)
        self.assert_invalid("inputs a\nb = not a", 3)
        self.assert_invalid("inputs a\nb = not a\nc = not b", 4)
        self.assert_invalid("\n".join(ADDER.split("\n")[:-1]), 7)
        # The newline begins an empty line, which is wrong itself.
        self.assert_invalid("inputs a\n", 2)
        self.assert_invalid("inputs a\nb = not a\n", 3)

    def test_something_behind_the_outputs(self):
        for more in ("", "\n", " ", "\noutputs a", "outputs a", "c = not a", "inputs a", "x", "\t"):
            self.assert_invalid("inputs a\noutputs a\n" + more, 3)
            self.assert_invalid("inputs a\nb = not a\noutputs b\n" + more, 4)
            self.assert_invalid(ADDER + "\n" + more, 8)

    def test_the_first_wrong_line_counts(self):
        self.assert_invalid("inputs\nb = not c\noutputs d\n", 1)
        self.assert_invalid("inputs a\nb = not c\noutputs d\n", 2)
        self.assert_invalid("inputs a\nb = not a\noutputs d\n", 3)
        self.assert_invalid("inputs a\nb = not a\noutputs b\n", 4)
        self.assert_invalid("inputs a\nb = not a\nb = not a\nc = not d", 3)
        self.assert_invalid("inputs a\nb = not a\noutputs b\nc = not d\noutputs c", 4)
        self.assert_invalid("inputs a\nb = not c\nc = not a\noutputs b", 2)

    def test_changed_texts_like_the_words_of_the_document(self):
        chance = random.Random(13)
        texts = [ADDER, "inputs a\noutputs a a", "inputs not or\nand = or not or\noutputs and"]
        words = WORDS + ["a", "b", "c", "ab", "=", "sum"]
        wrong = 0
        for _ in range(8000):
            text = changed_text(chance, chance.choice(texts), " \n\t=abcxyz19A", words)
            expected = plain_read(text)
            if isinstance(expected, int):
                wrong += 1
                self.assert_invalid(text, expected)
            else:
                self.assert_read(text, *expected)
        self.assertGreater(wrong, 4000)
        self.assertLess(wrong, 8000)


class OutputsTest(unittest.TestCase):
    def test_tables_of_the_kinds(self):
        points = [(0, 0), (0, 1), (1, 0), (1, 1)]
        for kind, wanted in (("and", [0, 0, 0, 1]), ("or", [0, 1, 1, 1]), ("xor", [0, 1, 1, 0])):
            circuit = Circuit(["a", "b"], [("c", kind, ("a", "b"))], ["c"])
            self.assertEqual([outputs_at(circuit, point) for point in points], [[number] for number in wanted])
            alone = Circuit(["a"], [("c", kind, ("a", "a"))], ["c"])
            self.assertEqual([outputs_at(alone, (number,)) for number in (0, 1)],
                             [[0], [0]] if kind == "xor" else [[0], [1]])
        circuit = Circuit(["a"], [("c", "not", ("a",))], ["c"])
        self.assertEqual([outputs_at(circuit, (number,)) for number in (0, 1)], [[1], [0]])

    def test_an_adder(self):
        circuit = read_circuit(ADDER)
        for point in all_tuples(2, 3):
            self.assertEqual(outputs_at(circuit, point), [sum(point) % 2, sum(point) // 2])
        space = Space(2, ["a", "b", "c"])
        self.assertEqual(polynomials_of(circuit), [read_polynomial(space, "a + b + c"),
                                                   read_polynomial(space, "a*b + a*c + b*c")])

    def test_inputs_as_outputs_and_outputs_several_times(self):
        circuit = Circuit(["a", "b"], [("c", "not", ("b",))], ["b", "c", "a", "c", "b"])
        for first, second in all_tuples(2, 2):
            self.assertEqual(outputs_at(circuit, (first, second)), [second, 1 - second, first, 1 - second, second])
        space = Space(2, ["a", "b"])
        self.assertEqual(polynomials_of(circuit),
                         [read_polynomial(space, text) for text in ("b", "b + 1", "a", "b + 1", "b")])

    def test_circuits_by_chance(self):
        chance = random.Random(2)
        for inputs in range(1, 9):
            for gates in (0, 1, 5, 20, 60):
                circuit = some_circuit(chance, inputs, gates, 4)
                kept = copy.deepcopy(fields(circuit))
                points = all_tuples(2, inputs)
                rows = [outputs_at(circuit, point) for point in points]
                self.assertEqual(rows, [plain_outputs(circuit, point) for point in points])
                found = polynomials_of(circuit)
                self.assertIs(type(found), list)
                self.assertEqual(len(found), 4)
                for index, one in enumerate(found):
                    self.assertTrue(well_formed(2, inputs, one))
                    if inputs < 7:
                        self.assertEqual(plain_table(2, inputs, one), [row[index] for row in rows])
                self.assertEqual(fields(circuit), kept)


class CompareTest(unittest.TestCase):
    def assert_answer(self, one, other):
        kept = copy.deepcopy((fields(one), fields(other)))
        answer = compare_circuits(one, other)
        self.assertIs(type(answer), tuple)
        points = all_tuples(2, len(one.inputs))
        if all(plain_outputs(one, point) == plain_outputs(other, point) for point in points):
            self.assertEqual(answer, ("same", polynomials_of(one)))
            self.assertEqual(answer, ("same", polynomials_of(other)))
            self.assertIs(type(answer[1]), list)
        else:
            kind, point, index = answer
            self.assertEqual((kind, type(point), type(index)), ("unlike", tuple, int))
            self.assertIn(point, points)
            self.assertTrue(0 <= index < len(one.outputs))
            self.assertNotEqual(plain_outputs(one, point)[index], plain_outputs(other, point)[index])
        self.assertEqual((fields(one), fields(other)), kept)
        return answer[0]

    def test_the_same_with_other_gates(self):
        other = "\n".join(["inputs a b c", "one = and a b", "two = and b c", "three = and c a", "pair = xor one two",
                           "carry = xor pair three", "bc = xor b c", "sum = xor bc a", "outputs sum carry"])
        self.assertEqual(self.assert_answer(read_circuit(ADDER), read_circuit(other)), "same")
        one = Circuit(["a", "b"], [("c", "or", ("a", "b")), ("d", "not", ("c",))], ["d"])
        other = Circuit(["a", "b"], [("d", "not", ("a",)), ("c", "not", ("b",)), ("e", "and", ("c", "d"))], ["e"])
        self.assertEqual(self.assert_answer(one, other), "same")

    def test_without_gates(self):
        plain = Circuit(["a", "b"], [], ["a", "b"])
        self.assertEqual(compare_circuits(plain, plain), ("same", polynomials_of(plain)))
        twice = Circuit(["a", "b"], [("c", "not", ("b",)), ("d", "not", ("c",))], ["a", "d"])
        self.assertEqual(self.assert_answer(plain, twice), "same")
        self.assertEqual(self.assert_answer(plain, Circuit(["a", "b"], [], ["b", "a"])), "unlike")

    def test_one_tuple_and_one_output_only(self):
        for count in (1, 2, 3, 5, 8):
            names = [f"i{at}" for at in range(count)]
            for point in all_tuples(2, count)[::7] + [(1,) * count]:
                for index in range(3):
                    one, other = self.at_one_point(names, point, index)
                    self.assertEqual(compare_circuits(one, other), ("unlike", point, index))
                    self.assertEqual(compare_circuits(other, one), ("unlike", point, index))

    def at_one_point(self, names, point, index):
        """Two circuits of three outputs that differ at one tuple of inputs, at the output with an index."""
        gates = [(f"n{at}", "not", (name,)) for at, name in enumerate(names)]
        chosen = [name if number else f"n{at}" for at, (name, number) in enumerate(zip(names, point))]
        last = chosen[0]
        for at, name in enumerate(chosen[1:]):
            gates.append((f"a{at}", "and", (last, name)))
            last = f"a{at}"
        gates.append(("changed", "xor", (names[0], last)))
        outputs = [names[0]] * 3
        return (Circuit(names, gates, outputs),
                Circuit(names, gates, outputs[:index] + ["changed"] + outputs[index + 1:]))

    def test_circuits_by_chance(self):
        chance = random.Random(3)
        kinds = []
        for _ in range(400):
            inputs, outputs = chance.randrange(1, 4), chance.randrange(1, 3)
            one = some_circuit(chance, inputs, chance.randrange(6), outputs)
            kinds.append(self.assert_answer(one, some_circuit(chance, inputs, chance.randrange(6), outputs)))
        self.assertGreater(kinds.count("same"), 10)
        self.assertGreater(kinds.count("unlike"), 10)

    def test_60_gates(self):
        chance = random.Random(4)
        for _ in range(5):
            one = some_circuit(chance, 8, 58, 4)
            negated = one.gates + [("m", "not", (one.outputs[0],)), ("n", "not", ("m",))]
            self.assertEqual(self.assert_answer(one, Circuit(one.inputs, negated, ["n"] + one.outputs[1:])), "same")
            self.assertEqual(self.assert_answer(one, Circuit(one.inputs, negated, ["m"] + one.outputs[1:])), "unlike")


class ListsTest(unittest.TestCase):
    def test_lists_are_new_each_time(self):
        circuit = read_circuit(ADDER)
        for make in (lambda: outputs_at(circuit, (1, 0, 1)), lambda: polynomials_of(circuit),
                     lambda: compare_circuits(circuit, circuit)[1]):
            first = make()
            kept = list(first)
            first.clear()
            self.assertEqual(make(), kept)
        self.assertEqual(write_circuit(circuit), ADDER)


if __name__ == "__main__":
    unittest.main()
