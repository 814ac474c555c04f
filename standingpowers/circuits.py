"""Circuits: their texts, their polynomials, and the comparing of two of them (section 13 of the document)."""

from standingpowers.errors import InvalidCircuit
from standingpowers.spaces import Space, is_name, make_a_space
from standingpowers.tables import polynomial_of

OPERANDS_BY_KIND = {"not": 1, "and": 2, "or": 2, "xor": 2}


class Circuit:
    """Names of inputs, gates of a name, a kind and the names of their operands, and names of outputs."""

    def __init__(self, inputs, gates, outputs):
        self.inputs = list(inputs)
        self.gates = list(gates)
        self.outputs = list(outputs)


def read_circuit(text):
    """The circuit of a text."""
    lines = text.split("\n")
    inputs = read_inputs(lines[0])
    known = {name: True for name in inputs}
    gates = []
    for number, line in enumerate(lines[1:], start=2):
        words = line.split(" ")
        if words[1:2] != ["="]:
            outputs = read_outputs(words, number, known)
            if number < len(lines):
                raise InvalidCircuit(number + 1)
            return Circuit(inputs, gates, outputs)
        gate = read_gate(words, number, known)
        known[gate[0]] = True
        gates.append(gate)
    raise InvalidCircuit(len(lines) + 1)


def read_inputs(line):
    """The names of the first line of a circuit."""
    first, *names = line.split(" ")
    if first != "inputs" or not make_a_space(2, names):
        raise InvalidCircuit(1)
    return names


def read_gate(words, number, known):
    """The gate of the line with a number, whose second word is the sign of a gate."""
    name = words[0]
    kind = words[2] if len(words) > 2 else ""
    operands = words[3:]
    if not is_name(name) or name in known or kind not in OPERANDS_BY_KIND:
        raise InvalidCircuit(number)
    if len(operands) != OPERANDS_BY_KIND[kind] or not all([operand in known for operand in operands]):
        raise InvalidCircuit(number)
    return (name, kind, tuple(operands))


def read_outputs(words, number, known):
    """The names of the last line of a circuit, which has a number."""
    first, *names = words
    if first != "outputs" or names == [] or not all([name in known for name in names]):
        raise InvalidCircuit(number)
    return names


def write_circuit(circuit):
    """The text of a circuit."""
    lines = [" ".join(["inputs"] + circuit.inputs)]
    for name, kind, operands in circuit.gates:
        lines.append(" ".join([name, "=", kind] + list(operands)))
    lines.append(" ".join(["outputs"] + circuit.outputs))
    return "\n".join(lines)


def outputs_at(circuit, point):
    """The outputs of a circuit whose inputs are a tuple of numbers."""
    number_by_name = {name: number for name, number in zip(circuit.inputs, point)}
    for name, kind, operands in circuit.gates:
        number_by_name[name] = gate_output(kind, [number_by_name[operand] for operand in operands])
    return [number_by_name[name] for name in circuit.outputs]


def gate_output(kind, numbers):
    """What a gate of a kind makes of the numbers of its operands."""
    if kind == "not":
        return 1 - numbers[0]
    first, second = numbers
    if kind == "and":
        return first & second
    if kind == "or":
        return first | second
    return first ^ second


def polynomials_of(circuit):
    """For each output the polynomial of the inputs whose values it has."""
    space = Space(2, circuit.inputs)
    rows = [outputs_at(circuit, point) for point in space.points()]
    return [polynomial_of(space, [row[index] for row in rows]) for index in range(len(circuit.outputs))]


def compare_circuits(one, other):
    """The polynomials that two circuits share, or inputs and the index of an output at which they differ."""
    for point in Space(2, one.inputs).points():
        firsts = outputs_at(one, point)
        seconds = outputs_at(other, point)
        for index in range(len(firsts)):
            if firsts[index] != seconds[index]:
                return ("unlike", point, index)
    return ("same", polynomials_of(one))
