"""Papers that are written, read and audited as texts (section 15 of the document)."""

from standingpowers.errors import InvalidPaper, SyntaxFault
from standingpowers.papers import Paper, accepts
from standingpowers.reading import read_polynomial, write_polynomial
from standingpowers.spaces import ORDERS


def write_paper(space, paper):
    """The text of a paper."""
    lines = [f"paper {paper.order}"]
    for polynomial, factors in paper.rows:
        lines.append(f"basis {write_polynomial(space, polynomial)}")
        lines.extend([f"by {write_polynomial(space, factor)}" for factor in factors])
    for point in paper.points:
        lines.append(" ".join(["point"] + [str(number) for number in point]))
    return "\n".join(lines)


def read_paper(space, text):
    """The paper of a text."""
    lines = text.split("\n")
    order = read_order(lines[0])
    rows = []
    points = []
    for number, line in enumerate(lines[1:], start=2):
        word, _, rest = line.partition(" ")
        if word == "point":
            points.append(read_point(space, rest, number))
        elif word == "basis" and points == []:
            rows.append((read_entry(space, rest, number), []))
        elif word == "by" and rows != [] and points == []:
            rows[-1][1].append(read_entry(space, rest, number))
        else:
            raise InvalidPaper(number)
    return Paper(order, rows, points)


def read_order(line):
    """The order of the first line of a paper."""
    for order in ORDERS:
        if line == f"paper {order}":
            return order
    raise InvalidPaper(1)


def read_entry(space, text, number):
    """The polynomial of a text that stands in the line with a number."""
    try:
        return read_polynomial(space, text)
    except SyntaxFault:
        raise InvalidPaper(number)


def read_point(space, text, number):
    """The point of a text that stands in the line with a number."""
    number_by_word = {str(own): own for own in range(space.prime)}
    words = text.split(" ")
    if len(words) != space.count or not all([word in number_by_word for word in words]):
        raise InvalidPaper(number)
    return tuple([number_by_word[word] for word in words])


def audit(system, text):
    """The number of solutions, if a text is a paper that is accepted for the system, and None if not."""
    try:
        paper = read_paper(system.space, text)
    except InvalidPaper:
        return None
    if not accepts(system, paper):
        return None
    return len(paper.points)
