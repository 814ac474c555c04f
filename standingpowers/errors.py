"""The errors that the program raises."""


class PowersError(ValueError):
    """The base class of all errors of the program."""


class InvalidSpace(PowersError):
    """A prime and names that make no space."""


class UnknownName(PowersError):
    """A name under which the desk has no system."""


class DuplicateName(PowersError):
    """A name under which the desk has a system already."""


class NoEquation(PowersError):
    """An index at which a system of the desk has no equation."""


class SyntaxFault(PowersError):
    """A place in a text at which no expression can go on."""

    def __init__(self, line, column):
        PowersError.__init__(self, f"the text cannot go on at line {line}, column {column}")
        self.line = line
        self.column = column


class InvalidSystem(PowersError):
    """A line of a text of a system that has not its form."""

    def __init__(self, line):
        PowersError.__init__(self, f"line {line} is not that of a system")
        self.line = line


class InvalidCircuit(PowersError):
    """A line of a text of a circuit that has not its form."""

    def __init__(self, line):
        PowersError.__init__(self, f"line {line} is not that of a circuit")
        self.line = line


class InvalidPaper(PowersError):
    """A line of a written paper that has not its form."""

    def __init__(self, line):
        PowersError.__init__(self, f"line {line} is not that of a paper")
        self.line = line
