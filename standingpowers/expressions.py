"""Expressions: their tokens, and their values at all points (points 3.1 and 3.2 of the document)."""

from standingpowers.errors import SyntaxFault
from standingpowers.polynomials import lessened
from standingpowers.spaces import LETTERS, LETTERS_AND_DIGITS
from standingpowers.tables import value_rows

DIGITS = "0123456789"
SIGNS = ("+", "-", "*", "^", "(", ")")
LONGEST_NUMBER = 9


def expression_values(space, text, line, before):
    """The values at the points in order of a text that is an expression.

    The text stands in a line behind so many other characters.
    """
    reader = ExpressionReader(space, tokens_of(space, text, SIGNS, ()), line, before)
    values = reader.read_sum()
    if not reader.takes("end"):
        reader.refuse()
    return values


def tokens_of(space, text, signs, words):
    """The tokens of a text, each a tuple of its kind, its word and the number of characters before it.

    The kinds are "number", "name" (of an unknown), the signs themselves, the
    words themselves, which are no names then, "none" for what is no token, and
    "end", which stands behind the others. Of two signs that fit at a place the
    first one of the list counts.
    """
    tokens = []
    at = 0
    while at < len(text):
        if text[at] == " ":
            at += 1
        else:
            kind, end = kind_and_end(space, text, at, signs, words)
            tokens.append((kind, text[at:end], at))
            at = end
    tokens.append(("end", "", len(text)))
    return tokens


def kind_and_end(space, text, start, signs, words):
    """The kind of the token that starts at a place, and the place behind it."""
    for sign in signs:
        if text.startswith(sign, start):
            return sign, start + len(sign)
    if text[start] in DIGITS:
        end = run_end(text, start, DIGITS)
        followed = end < len(text) and text[end] in LETTERS
        if followed or end - start > LONGEST_NUMBER:
            return "none", end
        return "number", end
    if text[start] in LETTERS:
        end = run_end(text, start, LETTERS_AND_DIGITS)
        word = text[start:end]
        if word in words:
            return word, end
        if word not in space.names:
            return "none", end
        return "name", end
    return "none", start + 1


def run_end(text, start, signs):
    """The place behind the longest run of these characters from a place on."""
    end = start
    while end < len(text) and text[end] in signs:
        end += 1
    return end


class OpenSum:
    """The values of a sum as far as it has been read, and of the product in which it goes on."""

    def __init__(self, prime, many, sign):
        self.prime = prime
        self.total = [0] * many
        self.product = [sign] * many

    def multiply(self, values):
        """Take a further factor of the product."""
        self.product = [number * other % self.prime for number, other in zip(self.product, values)]

    def begin_product(self, sign):
        """End the product, and begin the next one."""
        self.total = self.whole()
        self.product = [sign] * len(self.total)

    def whole(self):
        """The values of the sum, if it ends with the product."""
        return [(number + other) % self.prime for number, other in zip(self.total, self.product)]


class ExpressionReader:
    """Goes through tokens, and reckons the values of what it reads at all points."""

    def __init__(self, space, tokens, line, before):
        self.space = space
        self.tokens = tokens
        self.line = line
        self.before = before
        self.at = 0
        points = space.points()
        self.many = len(points)
        self.columns = {name: [point[at] for point in points] for at, name in enumerate(space.names)}
        self.power_rows = value_rows(space.prime)

    def takes(self, kind):
        """Whether the next token is of a kind; if so, it is passed."""
        if self.tokens[self.at][0] != kind:
            return False
        self.at += 1
        return True

    def refuse(self):
        """Raise the fault that the next token cannot stand where it stands."""
        raise SyntaxFault(self.line, self.before + self.tokens[self.at][2] + 1)

    def read_sum(self):
        """The values of a sum, which ends before the first token with which it cannot go on."""
        # The open brackets are kept in a list instead of in calls within
        # calls, so that it does not matter how deep they are.
        sums = [self.begun_sum()]
        while True:
            while self.takes("("):
                sums.append(self.begun_sum())
            sums[-1].multiply(self.raised(self.read_operand()))
            while len(sums) > 1 and self.takes(")"):
                inner = sums.pop()
                sums[-1].multiply(self.raised(inner.whole()))
            if not self.goes_on(sums[-1]):
                break
        if len(sums) > 1:
            self.refuse()
        return sums[0].whole()

    def begun_sum(self):
        """A sum that begins here, perhaps with a minus sign."""
        sign = self.space.prime - 1 if self.takes("-") else 1
        return OpenSum(self.space.prime, self.many, sign)

    def read_operand(self):
        """The values of a number or a name."""
        word = self.tokens[self.at][1]
        if self.takes("number"):
            return [int(word) % self.space.prime] * self.many
        if not self.takes("name"):
            self.refuse()
        return self.columns[word]

    def raised(self, values):
        """The values of a base, raised if an exponent follows."""
        if not self.takes("^"):
            return values
        word = self.tokens[self.at][1]
        if not self.takes("number"):
            self.refuse()
        exponent = lessened(self.space.prime, int(word))
        return [self.power_rows[number][exponent] for number in values]

    def goes_on(self, begun):
        """Whether an operator follows; if so, it is passed, and the sum goes on behind it."""
        if self.takes("*"):
            return True
        if self.takes("+"):
            begun.begin_product(1)
            return True
        if self.takes("-"):
            begun.begin_product(self.space.prime - 1)
            return True
        return False
