"""Sentences about the points of a space: truth, polynomials, texts (section 16 of the document)."""

from standingpowers.expressions import ExpressionReader, tokens_of
from standingpowers.polynomials import value
from standingpowers.reading import write_polynomial
from standingpowers.systems import System
from standingpowers.tables import polynomial_of, table_of

# Of two signs that fit at a place the longer one is to count, so it stands first.
SIGNS = ("=>", "/=", "=", "[", "]", "+", "-", "*", "^", "(", ")")
WORDS = ("not", "and", "or")

# How tightly a form holds its parts together: a part needs brackets if its
# own number is less than what its place asks for.
TIGHTNESS = {"=>": 0, "or": 1, "and": 2, "not": 3, "=": 3, "/=": 3}
ASKED_OF_PARTS = {"=>": (1, 0), "or": (1, 2), "and": (2, 3)}


def is_true(space, sentence, point):
    """Whether a sentence is true at a point."""
    kind = sentence[0]
    if kind == "=" or kind == "/=":
        equal = value(space, sentence[1], point) == value(space, sentence[2], point)
        return equal == (kind == "=")
    return joined(kind, [is_true(space, part, point) for part in sentence[1:]])


def joined(kind, truths):
    """The truth of a sentence of a kind whose parts are sentences with these truths."""
    if kind == "not":
        return not truths[0]
    first, second = truths
    if kind == "and":
        return first and second
    if kind == "or":
        return first or second
    return not first or second


def truths_of(space, sentence):
    """For each point in order whether a sentence is true there."""
    kind = sentence[0]
    if kind == "=" or kind == "/=":
        firsts, seconds = [table_of(space, one) for one in sentence[1:]]
        return [(first == second) == (kind == "=") for first, second in zip(firsts, seconds)]
    columns = [truths_of(space, part) for part in sentence[1:]]
    return [joined(kind, truths) for truths in zip(*columns)]


def polynomial_of_sentence(space, sentence):
    """The polynomial that is 0 at the points at which a sentence is true, and 1 at the others."""
    return polynomial_of(space, [0 if truth else 1 for truth in truths_of(space, sentence)])


def system_of(space, sentences):
    """The system whose equations are the polynomials of some sentences."""
    return System(space, [polynomial_of_sentence(space, sentence) for sentence in sentences])


def read_sentence(space, text):
    """The sentence of a text."""
    reader = ExpressionReader(space, tokens_of(space, text, SIGNS, WORDS), 1, 0)
    sentence = read_implication(reader)
    if not reader.takes("end"):
        reader.refuse()
    return sentence


def read_implication(reader):
    """A sentence, perhaps with the sign of an implication."""
    first = read_either(reader)
    if not reader.takes("=>"):
        return first
    return ("=>", first, read_implication(reader))


def read_either(reader):
    """Sentences that are joined by or, at least one."""
    found = read_both(reader)
    while reader.takes("or"):
        found = ("or", found, read_both(reader))
    return found


def read_both(reader):
    """Sentences that are joined by and, at least one."""
    found = read_part(reader)
    while reader.takes("and"):
        found = ("and", found, read_part(reader))
    return found


def read_part(reader):
    """A sentence that begins with not, one in brackets, or a comparison."""
    if reader.takes("not"):
        return ("not", read_part(reader))
    if not reader.takes("["):
        return read_comparison(reader)
    sentence = read_implication(reader)
    if not reader.takes("]"):
        reader.refuse()
    return sentence


def read_comparison(reader):
    """Two sums that are to be equal or unequal."""
    first = polynomial_of(reader.space, reader.read_sum())
    kind = "="
    if not reader.takes("="):
        kind = "/="
        if not reader.takes("/="):
            reader.refuse()
    return (kind, first, polynomial_of(reader.space, reader.read_sum()))


def write_sentence(space, sentence):
    """The text of a sentence."""
    kind = sentence[0]
    if kind == "=" or kind == "/=":
        first, second = [write_polynomial(space, one) for one in sentence[1:]]
        return f"{first} {kind} {second}"
    if kind == "not":
        return f"not {part_text(space, sentence[1], TIGHTNESS[kind])}"
    first_asked, second_asked = ASKED_OF_PARTS[kind]
    first = part_text(space, sentence[1], first_asked)
    return f"{first} {kind} {part_text(space, sentence[2], second_asked)}"


def part_text(space, part, asked):
    """The text of a part of a sentence, in brackets if it is less tight than its place asks for."""
    text = write_sentence(space, part)
    if TIGHTNESS[part[0]] < asked:
        return f"[{text}]"
    return text
