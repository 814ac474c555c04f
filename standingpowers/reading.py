"""Texts of polynomials and of systems, read and written (section 3 of the document)."""

from standingpowers.errors import InvalidSpace, InvalidSystem
from standingpowers.expressions import expression_values
from standingpowers.spaces import PRIMES, Space
from standingpowers.systems import System
from standingpowers.tables import polynomial_of


def read_polynomial(space, text):
    """The polynomial of an expression."""
    return polynomial_of(space, expression_values(space, text, 1, 0))


def write_polynomial(space, one):
    """The text of a polynomial."""
    if one == ():
        return "0"
    return " + ".join([term_text(space, power, number) for power, number in one])


def term_text(space, power, number):
    """The text of a number times a power."""
    parts = []
    if number != 1 or power == space.zero():
        parts.append(str(number))
    for name, exponent in zip(space.names, power):
        if exponent == 1:
            parts.append(name)
        elif exponent > 1:
            parts.append(f"{name}^{exponent}")
    return "*".join(parts)


def read_system(text):
    """The system of a text."""
    lines = text.split("\n")
    prime = read_prime(lines[0])
    if len(lines) == 1:
        raise InvalidSystem(2)
    space = read_space(prime, lines[1])
    return System(space, [read_equation(space, line, number) for number, line in enumerate(lines[2:], start=3)])


def read_prime(line):
    """The prime of the first line of a system."""
    for prime in PRIMES:
        if line == f"numbers {prime}":
            return prime
    raise InvalidSystem(1)


def read_space(prime, line):
    """The space of the second line of a system."""
    first, *names = line.split(" ")
    if first != "unknowns":
        raise InvalidSystem(2)
    try:
        return Space(prime, names)
    except InvalidSpace:
        raise InvalidSystem(2)


def read_equation(space, line, number):
    """The polynomial of an equation that stands in the line with a number."""
    first, sign, second = line.partition("=")
    values = expression_values(space, first, number, 0)
    if sign == "=":
        others = expression_values(space, second, number, len(first) + 1)
        values = [one - other for one, other in zip(values, others)]
    return polynomial_of(space, values)


def write_system(system):
    """The text of a system."""
    space = system.space
    lines = [f"numbers {space.prime}", " ".join(["unknowns"] + space.names)]
    return "\n".join(lines + [write_polynomial(space, equation) for equation in system.equations])
