"""sentences.py, texts: points 16.2 and 16.3 of the document, and 0.5 for its functions."""

import copy
import itertools
import random
import re
import unittest

from helpers import SMALL_SIZES, some_polynomials, some_sentence, space_of
from standingpowers.errors import PowersError, SyntaxFault
from standingpowers.reading import read_polynomial, write_polynomial
from standingpowers.sentences import read_sentence, write_sentence
from standingpowers.spaces import Space

# The grammar of points 3.1 and 16.2, with what is repeated taken apart.
GRAMMAR = {
    "sentence": [["either"], ["either", "=>", "sentence"]],
    "either": [["both"], ["either", "or", "both"]],
    "both": [["part"], ["both", "and", "part"]],
    "part": [["not", "part"], ["[", "sentence", "]"], ["sum", "=", "sum"], ["sum", "/=", "sum"]],
    "sum": [["product"], ["-", "product"], ["sum", "+", "product"], ["sum", "-", "product"]],
    "product": [["factor"], ["product", "*", "factor"]],
    "factor": [["base"], ["base", "^", "NUMBER"]],
    "base": [["NUMBER"], ["NAME"], ["(", "sum", ")"]],
}
TOKEN = re.compile(r"[0-9]+|[a-z][a-z0-9]*|=>|/=|.|\n")
FORMS = ["=", "/=", "not", "and", "or", "=>"]


def plain_tokens(space, text):
    """The kinds and columns of the tokens of a text."""
    found = []
    for match in TOKEN.finditer(text):
        word, column = match[0], match.start() + 1
        if word == " ":
            continue
        if word[0].isdigit():
            good = len(word) < 10 and not re.match("[a-z]", text[match.end():])
            kind = "NUMBER" if good else "none"
        elif word[0].isalpha() and word[0].islower():
            kind = word if word in ("not", "and", "or") else "NAME" if word in space.names else "none"
        else:
            kind = word if word in "=> /= = [ ] + - * ^ ( )".split() else "none"
        found.append((kind, column))
    return found


def fault_column(space, text):
    """The column of the first fault by the grammar, None if the text is a sentence.

    Each row holds the rules that may be under way behind a token, as
    (head, symbols, symbols that are passed, row in which it began).
    """
    rows = [{("start", ("sentence",), 0, 0): True}]
    close(rows)
    for kind, column in plain_tokens(space, text):
        passed = {(head, symbols, at + 1, begun): True for head, symbols, at, begun in rows[-1]
                  if at < len(symbols) and symbols[at] == kind}
        if not passed:
            return column
        rows.append(passed)
        close(rows)
    if ("start", ("sentence",), 1, 0) in rows[-1]:
        return None
    return len(text) + 1


def close(rows):
    """Add to the last row all rules that begin or end there."""
    row, waiting = rows[-1], list(rows[-1])
    while waiting:
        head, symbols, at, begun = waiting.pop()
        if at == len(symbols):
            more = [(other, its, place + 1, start) for other, its, place, start in rows[begun]
                    if place < len(its) and its[place] == head]
        else:
            more = [(symbols[at], tuple(rule), 0, len(rows) - 1) for rule in GRAMMAR.get(symbols[at], [])]
        for item in more:
            if item not in row:
                row[item] = True
                waiting.append(item)


class TextTest(unittest.TestCase):
    def setUp(self):
        self.space = Space(5, ["x", "y", "z"])

    def one(self, text):
        return read_polynomial(self.space, text)

    def equal(self, first, second):
        return ("=", self.one(first), self.one(second))

    def assert_read(self, text, sentence, space=None):
        self.assertEqual(read_sentence(space or self.space, text), sentence, repr(text))

    def assert_fault(self, text, column, space=None):
        with self.assertRaises(SyntaxFault, msg=repr(text)) as caught:
            read_sentence(space or self.space, text)
        self.assertEqual((caught.exception.line, caught.exception.column), (1, column), repr(text))
        self.assertIsInstance(caught.exception, PowersError)


class ReadingTest(TextTest):
    def test_comparisons(self):
        self.assert_read("x = y", self.equal("x", "y"))
        self.assert_read("x /= y", ("/=", self.one("x"), self.one("y")))
        self.assert_read("x + 2*y = -z^2", self.equal("x + 2*y", "-z^2"))
        self.assert_read("(x + y)*z=(((7)))", self.equal("x*z + y*z", "2"))
        self.assert_read("-x /= -(y)", ("/=", self.one("4*x"), self.one("4*y")))
        self.assert_read("0 = 0", ("=", (), ()))
        self.assert_read("x - x /= 5", ("/=", (), ()))

    def test_each_form(self):
        a, b = self.equal("x", "1"), self.equal("y", "2")
        self.assert_read("not x = 1", ("not", a))
        self.assert_read("x = 1 and y = 2", ("and", a, b))
        self.assert_read("x = 1 or y = 2", ("or", a, b))
        self.assert_read("x = 1 => y = 2", ("=>", a, b))
        self.assert_read("[x = 1]", a)

    def test_what_binds_more_tightly(self):
        a, b, c = self.equal("x", "1"), self.equal("y", "2"), ("/=", self.one("z"), self.one("3"))
        texts = {"a": "x = 1", "b": "y = 2", "c": "z /= 3"}
        expected = {
            "not a and b": ("and", ("not", a), b),
            "not a or b": ("or", ("not", a), b),
            "not a => b": ("=>", ("not", a), b),
            "not not a": ("not", ("not", a)),
            "not not not a and not b": ("and", ("not", ("not", ("not", a))), ("not", b)),
            "a and b or c": ("or", ("and", a, b), c),
            "a or b and c": ("or", a, ("and", b, c)),
            "a and b and c": ("and", ("and", a, b), c),
            "a or b or c": ("or", ("or", a, b), c),
            "a => b => c": ("=>", a, ("=>", b, c)),
            "a or b => c": ("=>", ("or", a, b), c),
            "a => b or c": ("=>", a, ("or", b, c)),
            "a and b => b and c": ("=>", ("and", a, b), ("and", b, c)),
            "a and b or b and c or c": ("or", ("or", ("and", a, b), ("and", b, c)), c),
            "a and b and c and a": ("and", ("and", ("and", a, b), c), a),
            "a or b or c or a": ("or", ("or", ("or", a, b), c), a),
            "a => b => c => a": ("=>", a, ("=>", b, ("=>", c, a))),
            "[a => b] => c": ("=>", ("=>", a, b), c),
            "a => [b => c]": ("=>", a, ("=>", b, c)),
            "[a or b] and c": ("and", ("or", a, b), c),
            "a and [b or c]": ("and", a, ("or", b, c)),
            "a and [b and c]": ("and", a, ("and", b, c)),
            "[a and b] and c": ("and", ("and", a, b), c),
            "a or [b or c]": ("or", a, ("or", b, c)),
            "not [a and b]": ("not", ("and", a, b)),
            "not [not a]": ("not", ("not", a)),
            "[not a] and [b]": ("and", ("not", a), b),
            "[[[a]]] or [[b and [c]]]": ("or", a, ("and", b, c)),
            "a and not b => not c": ("=>", ("and", a, ("not", b)), ("not", c)),
        }
        for pattern, sentence in expected.items():
            text = re.sub(r"\b[abc]\b", lambda match: texts[match[0]], pattern)
            self.assert_read(text, sentence)
            self.assert_read(re.sub(r" (=>|/=|=) |([\[\]]) ?", r"\1\2", text), sentence)
            self.assert_read("  " + text.replace(" ", "   ").replace("[", "[  ").replace("]", "  ]") + "    ", sentence)

    def test_spaces_that_are_not_needed(self):
        a, b, c = self.equal("x", "1"), self.equal("y", "2"), ("/=", self.one("z"), self.one("3"))
        # A letter directly behind a number, so that the number is no token.
        self.assert_fault("x=1and(y)=2", 3)
        self.assert_read("x=1 and(y)=2", ("and", a, b))
        self.assert_read("not[x=1]and[y=2]or[z/=3]", ("or", ("and", ("not", a), b), c))
        self.assert_read("not(x)=1", ("not", a))
        self.assert_read("not-x=-1", ("not", self.equal("-x", "-1")))
        self.assert_read("x=1=>y=2", ("=>", a, b))
        self.assert_read("x=(1)or(y)=2", ("or", a, b))
        self.assert_read("[x=1]=>[z/=3]", ("=>", a, c))

    def test_signs_side_by_side(self):
        # Of two signs that fit the longer one is taken.
        self.assert_read("x/=y", ("/=", self.one("x"), self.one("y")))
        self.assert_read("x=y=>x/=y=>x=y", ("=>", self.equal("x", "y"),
                                             ("=>", ("/=", self.one("x"), self.one("y")), self.equal("x", "y"))))
        self.assert_read("x=-y", self.equal("x", "-y"))
        self.assert_fault("x=>y", 2)
        self.assert_fault("x =>y = 1", 3)
        self.assert_fault("x= >y", 4)
        self.assert_fault("x==y", 3)
        self.assert_fault("x=y= >y=x", 4)
        self.assert_fault("x/==y", 4)
        self.assert_fault("x/=>y", 4)
        self.assert_fault("x=/=y", 3)
        self.assert_fault("x / = y", 3)

    def test_unknowns_that_are_called_not_and_or(self):
        space = Space(2, ["not", "and", "or", "x", "nota", "not2", "orx"])
        for word in ("not", "and", "or"):
            self.assert_fault(f"x = {word}", 5, space)
            self.assert_fault(f"x*{word} = 1", 3, space)
            self.assert_fault(f"({word}) = x", 2, space)
        self.assert_fault("not = x", 5, space)
        self.assert_fault("and = x", 1, space)
        self.assert_fault("or = x", 1, space)
        self.assert_read("nota = not2", ("=", read_polynomial(space, "nota"), read_polynomial(space, "not2")), space)
        orx, x = read_polynomial(space, "orx"), read_polynomial(space, "x")
        self.assert_read("not orx = x", ("not", ("=", orx, x)), space)
        self.assertEqual(read_polynomial(space, "not*and + or"), read_polynomial(space, "or + and*not"))

    def test_texts_by_chance(self):
        chance = random.Random(162)
        for _ in range(1500):
            text, sentence = self.sentence_by_chance(chance, 4)
            self.assert_read(text, sentence)
            self.assertIsNone(fault_column(self.space, text))

    def sentence_by_chance(self, chance, depth):
        text, sentence = self.either_by_chance(chance, depth)
        if chance.random() < 0.3:
            more, other = self.sentence_by_chance(chance, depth - 1)
            return text + self.gap(chance) + "=>" + self.gap(chance) + more, ("=>", sentence, other)
        return text, sentence

    def either_by_chance(self, chance, depth):
        return self.joined_by_chance(chance, depth, "or", self.both_by_chance)

    def both_by_chance(self, chance, depth):
        return self.joined_by_chance(chance, depth, "and", self.part_by_chance)

    def joined_by_chance(self, chance, depth, word, make):
        text, sentence = make(chance, depth)
        while chance.random() < 0.25:
            more, other = make(chance, depth)
            text, sentence = f"{text} {self.gap(chance)}{word} {more}", (word, sentence, other)
        return text, sentence

    def part_by_chance(self, chance, depth):
        kind = chance.random() if depth > 0 else 1
        if kind < 0.25:
            text, sentence = self.part_by_chance(chance, depth - 1)
            return "not " + text, ("not", sentence)
        if kind < 0.5:
            text, sentence = self.sentence_by_chance(chance, depth - 1)
            return "[" + self.gap(chance) + text + self.gap(chance) + "]", sentence
        sums = ["x", "-y", "x + y", "2*(x - z)^2", "0", "(x)", "-(-(3))", "z*z*z", "x^0"]
        first, second, sign = chance.choice(sums), chance.choice(sums), chance.choice(["=", "/="])
        text = first + self.gap(chance) + sign + self.gap(chance) + second
        return text, (sign, self.one(first), self.one(second))

    def gap(self, chance):
        return chance.choice(["", " ", "  "])

    def test_40_words_and_signs(self):
        equal = self.equal("x", "y")
        for word in ("not", "and", "or", "=>", "["):
            for many in (1, 39, 40, 45):
                if word == "not":
                    text = "not " * many + "x = y"
                elif word == "[":
                    text = "[" * many + "x = y" + "]" * many
                else:
                    text = f" {word} ".join(["x = y"] * (many + 1))
                sentence = equal
                for _ in range(0 if word == "[" else many):
                    sentence = {"not": ("not", sentence), "=>": ("=>", equal, sentence)}.get(
                        word, (word, sentence, equal))
                self.assert_read(text, sentence)
        deep = "not [x = y => " * 13 + "x = y" + "]" * 13
        sentence = equal
        for _ in range(13):
            sentence = ("not", ("=>", equal, sentence))
        self.assert_read(deep, sentence)

    def test_deep_round_brackets(self):
        for depth in (1, 40, 60):
            self.assert_read("(" * depth + "x" + ")" * depth + "=" + "(" * depth + "y" + ")" * depth,
                             self.equal("x", "y"))
            self.assert_read("[" * 20 + "(" * depth + "x" + ")" * depth + " = y" + "]" * 20, self.equal("x", "y"))

    def test_long_texts(self):
        self.assert_read("x = y" + " " * 99990, self.equal("x", "y"))
        self.assert_read("x = " + "+".join(["y"] * 40001), self.equal("x", "y"))
        self.assert_read("*".join(["(z+1)"] * 16001) + " /= 0", ("/=", self.one("z + 1"), ()))


class FaultTest(TextTest):
    def test_texts_that_end_too_early(self):
        for text in ("", " ", "     ", "x", "x ", "x + y", "x =", "x = ", "x /=", "x /=   ", "x = (y", "(x", "x=y and",
                     "x = y or  ", "x = y =>", "not", "not ", "not not ", "[", "[x", "[x = y", "[x = y ", "[[x = y]",
                     "x = y => [", "x = y and not", "x = -", "x = y +", "x = y^", "-", "x = y => x", "not [x = y"):
            self.assert_fault(text, len(text) + 1)

    def test_three_sums(self):
        self.assert_fault("x = y = z", 7)
        self.assert_fault("x = y /= z", 7)
        self.assert_fault("x /= y = z", 8)
        self.assert_fault("[x = y = z]", 8)
        self.assert_fault("x = y and y = z = x", 17)

    def test_brackets_of_the_other_kind(self):
        self.assert_fault("(x = y)", 4)
        self.assert_fault("(x = y) and x = y", 4)
        self.assert_fault("not (x = y)", 8)
        self.assert_fault("(not x = y)", 2)
        self.assert_fault("((x) = y)", 6)
        self.assert_fault("([x = y])", 2)
        self.assert_fault("[x] = y", 3)
        self.assert_fault("[x + y]*z = y", 7)
        self.assert_fault("x = [y]", 5)
        self.assert_fault("x*[y] = 1", 3)
        self.assert_fault("[x = y)", 7)
        self.assert_fault("x = (y]", 7)
        self.assert_fault("x = y]", 6)
        self.assert_fault("x = y)", 6)
        self.assert_fault("[]", 2)
        self.assert_fault("()", 2)
        self.assert_fault("[x = y][x = y]", 8)
        self.assert_fault("[x = y] x = y", 9)
        self.assert_fault("[x = y] = x", 9)
        self.assert_fault("[x = y] + x = 1", 9)
        self.assert_fault("[x = y]^2", 8)

    def test_words_and_signs_that_cannot_stand_there(self):
        for text, column in {"= x": 1, "/= x": 1, "=> x = y": 1, "and x = y": 1, "or x = y": 1, "] x = y": 1, ") x": 1,
                             "x = y and and x = y": 11, "x = y or or x = y": 10, "x = y and or x = y": 11,
                             "x = y => => x = y": 10, "x = y not x = y": 7, "x = y not": 7, "not and x = y": 5,
                             "x and y": 3, "x or y": 3, "x not = y": 3, "x => y": 3, "x = not y": 5, "x = and y": 5,
                             "x + not y = z": 5, "x y = z": 3, "x = y z": 7, "x = y 2": 7, "x = 2 3": 7,
                             "x = = y": 5, "x = y => and": 10, "x = y and => x": 11, "not = x": 5, "not /= x": 5,
                             "x =* y": 4, "x = +y": 5, "x = --y": 6, "x^y = z": 3, "x = y^(2)": 7, "[= x]": 2,
                             "[and": 2, "[=> x": 2, "x = y [": 7, "x [": 3, "x = (": 6}.items():
            self.assert_fault(text, column)

    def test_what_is_no_token(self):
        wrong = ["w", "xx", "X", "2x", "1234567890", "abcdefghijklm", "/", "\t", "\n", ".", "<", ">", "!", "&", "#",
                 "{", ",", "not2", "nota", "andor", "1and", "2or", "3not", "AND", "Not", ":", "/ =", ">="]
        for word in wrong:
            for before, column in (("", 1), ("x = ", 5), ("x + ", 5), ("[", 2), ("not ", 5), ("x = y and ", 11),
                                   ("(", 2), ("x = y => ", 10), ("x ", 3), ("x = y ", 7), ("x^", 3), ("x = (y ", 8),
                                   ("[x = y] ", 9), ("[x = y ", 8)):
                self.assert_fault(before + word, column)
                self.assert_fault(before + word + " = x", column)
        for sign in ("=", "/=", "=>", "*"):
            self.assert_fault(f"x {sign} /", 3 if sign == "=>" else len(sign) + 4)

    def test_a_slash_alone(self):
        self.assert_fault("/", 1)
        self.assert_fault("x / y = z", 3)
        self.assert_fault("x/y", 2)
        self.assert_fault("x//=y", 2)
        self.assert_fault("x = y/", 6)
        self.assert_fault("x = y / 2", 7)
        self.assert_fault("x/ =y", 2)
        self.assert_fault("x = /= y", 5)

    def test_all_characters(self):
        good = "abcdefghijklmnopqrstuvwxyz0123456789 +-*^()=[]/"
        for sign in [chr(code) for code in range(32, 127)] + ["\t", "\n"]:
            if sign not in good:
                self.assert_fault(sign, 1)
                self.assert_fault("x = y" + sign, 6)
                self.assert_fault("x" + sign + "= y", 2)
                self.assert_fault("x = 2" + sign, 6)

    def test_the_first_fault_counts(self):
        self.assert_fault("x = y ) w /", 7)
        self.assert_fault("w = y ) /", 1)
        self.assert_fault("x = y and 2x = (", 11)
        self.assert_fault("x y z", 3)
        self.assert_fault("x = y\nand x = y", 6)

    def test_every_text_of_few_tokens(self):
        space = Space(3, ["x"])
        tokens = ["x", "2", "=", "/=", "=>", "not", "and", "[", "]", "(", ")", "-", "^"]
        for length in range(5):
            for words in itertools.product(tokens, repeat=length):
                self.assert_like_the_grammar(space, " ".join(words))

    def test_longer_texts_by_chance(self):
        chance = random.Random(163)
        space = Space(3, ["x"])
        tokens = ["x", "x", "x", "2", "=", "=", "/=", "=>", "not", "and", "or", "[", "]", "(", ")", "-", "+", "*", "^"]
        for _ in range(3000):
            words = [chance.choice(tokens) for _ in range(chance.randrange(5, 14))]
            self.assert_like_the_grammar(space, " ".join(words))

    def test_changed_sentences(self):
        chance = random.Random(164)
        space = Space(3, ["x", "y"])
        good = 0
        for _ in range(3000):
            text = write_sentence(space, some_sentence(chance, space, 3))
            for _ in range(chance.randrange(1, 3)):
                at = chance.randrange(len(text) + 1)
                if chance.random() < 0.5:
                    text = text[:at] + text[at + 1:]
                else:
                    text = text[:at] + chance.choice(" =/>[]()+-*^xy2na") + text[at:]
            good += self.assert_like_the_grammar(space, text)
        self.assertGreater(good, 300)

    def assert_like_the_grammar(self, space, text):
        """Whether the text is read or has its fault as the grammar says; returns whether it is a sentence."""
        column = fault_column(space, text)
        if column is None:
            sentence = read_sentence(space, text)
            self.assertEqual(read_sentence(space, write_sentence(space, sentence)), sentence)
        else:
            self.assert_fault(text, column, space)
        return column is None


class WritingTest(TextTest):
    def test_by_hand(self):
        a, b, c = self.equal("x", "1"), self.equal("2*y + x", "0"), ("/=", self.one("z^2"), self.one("3"))
        expected = {
            "x = 1": a,
            "x + 2*y = 0": b,
            "z^2 /= 3": c,
            "0 = 0": ("=", (), ()),
            "not x = 1": ("not", a),
            "not not z^2 /= 3": ("not", ("not", c)),
            "x = 1 and x + 2*y = 0 and z^2 /= 3": ("and", ("and", a, b), c),
            "x = 1 and [x + 2*y = 0 and z^2 /= 3]": ("and", a, ("and", b, c)),
            "x = 1 or [x + 2*y = 0 or z^2 /= 3]": ("or", a, ("or", b, c)),
            "x = 1 => x + 2*y = 0 => z^2 /= 3": ("=>", a, ("=>", b, c)),
            "[x = 1 => x + 2*y = 0] => z^2 /= 3": ("=>", ("=>", a, b), c),
            "not [x = 1 or not [x + 2*y = 0 and z^2 /= 3]]": ("not", ("or", a, ("not", ("and", b, c)))),
            "[x = 1 or x + 2*y = 0] and [z^2 /= 3 => x = 1]": ("and", ("or", a, b), ("=>", c, a)),
            "not x = 1 and not z^2 /= 3 or x = 1": ("or", ("and", ("not", a), ("not", c)), a),
        }
        for text, sentence in expected.items():
            self.assertEqual(write_sentence(self.space, sentence), text)
            self.assert_read(text, sentence)

    def test_each_pair_of_a_form_within_a_form(self):
        for outer in FORMS[2:]:
            for inner in FORMS:
                for left in (True, False):
                    self.assert_pair(outer, inner, left)

    def assert_pair(self, outer, inner, left):
        """Whether brackets stand around a form within a form, on one of both sides, just as point 16.3 says."""
        equal = self.equal("x", "y")
        if inner in ("=", "/="):
            part, text = (inner, self.one("x"), self.one("y")), f"x {inner} y"
        elif inner == "not":
            part, text = ("not", equal), "not x = y"
        else:
            part, text = (inner, equal, equal), f"x = y {inner} x = y"
        needed = {
            "not": inner in ("=>", "or", "and"),
            "and": inner in ("=>", "or") or inner == "and" and not left,
            "or": inner == "=>" or inner == "or" and not left,
            "=>": inner == "=>" and left,
        }[outer]
        text = f"[{text}]" if needed else text
        if outer == "not":
            sentence, whole = ("not", part), f"not {text}"
        elif left:
            sentence, whole = (outer, part, equal), f"{text} {outer} x = y"
        else:
            sentence, whole = (outer, equal, part), f"x = y {outer} {text}"
        self.assertEqual(write_sentence(self.space, sentence), whole)
        self.assert_read(whole, sentence)
        if needed:
            bare = whole.replace("[", "").replace("]", "")
            self.assertNotEqual(read_sentence(self.space, bare), sentence)

    def test_reading_gives_the_sentence_again(self):
        chance = random.Random(161)
        for prime, count in SMALL_SIZES:
            space = space_of(prime, count)
            for depth in (1, 2, 3, 4, 5, 6):
                for _ in range(10):
                    sentence = some_sentence(chance, space, depth)
                    kept = copy.deepcopy(sentence)
                    text = write_sentence(space, sentence)
                    self.assertEqual(read_sentence(space, text), sentence)
                    self.assertEqual(sentence, kept)
                    self.assert_no_bracket_too_many(space, text, sentence)

    def assert_no_bracket_too_many(self, space, text, sentence):
        """Whether the text without any pair of its square brackets is another sentence or none."""
        begun = []
        for at, sign in enumerate(text):
            if sign == "[":
                begun.append(at)
            elif sign == "]":
                start = begun.pop()
                fewer = text[:start] + text[start + 1:at] + text[at + 1:]
                self.assertIsNone(fault_column(space, fewer))
                self.assertNotEqual(read_sentence(space, fewer), sentence)

    def test_polynomials(self):
        for prime, count in SMALL_SIZES:
            space = space_of(prime, count)
            for one in some_polynomials(prime, count, 6, 8):
                for other in some_polynomials(prime, count, 4, 9):
                    for sign in ("=", "/="):
                        text = f"{write_polynomial(space, one)} {sign} {write_polynomial(space, other)}"
                        self.assertEqual(write_sentence(space, (sign, one, other)), text)
                        self.assertEqual(read_sentence(space, text), (sign, one, other))

    def test_deep_sentences(self):
        equal = self.equal("x", "1")
        texts = {"not": "not " * 44 + "x = 1", "and": " and ".join(["x = 1"] * 45), "or": " or ".join(["x = 1"] * 45),
                 "=>": "[" * 43 + "x = 1 => " + "x = 1] => " * 43 + "x = 1"}
        for kind, text in texts.items():
            sentence = equal
            for _ in range(44):
                sentence = ("not", sentence) if kind == "not" else (kind, sentence, equal)
            self.assertEqual(write_sentence(self.space, sentence), text)
            self.assert_read(text, sentence)

    def test_unknowns_that_are_called_not_and_or(self):
        space = Space(2, ["not", "and", "or"])
        first, second = read_polynomial(space, "not*or"), read_polynomial(space, "and")
        sentence = ("and", ("=", first, ()), ("not", ("/=", second, ())))
        self.assertEqual(write_sentence(space, sentence), "not*or = 0 and not and /= 0")


if __name__ == "__main__":
    unittest.main()
