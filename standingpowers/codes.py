"""Codes: the values of polynomials of low degree at some points (section 18 of the document)."""

from standingpowers.bases import Elimination
from standingpowers.polynomials import degree, gathered, number_of
from standingpowers.spaces import degree_of
from standingpowers.tables import value_by_point


class Code:
    """A space, points of it, and the greatest degree of the polynomials whose values are words."""

    def __init__(self, space, points, most):
        self.space = space
        self.points = list(points)
        self.most = most
        self._elimination = Elimination(space, points, "degree")
        powers = self._elimination.standing_powers
        self._carriers = [power for power in powers if degree_of(power) <= most]

    def carriers(self):
        """The powers whose sums, each with a number, have the words as their values, ascending."""
        return list(self._carriers)

    def word(self, numbers):
        """The word of a list of numbers, one for each carrier."""
        one = gathered(self.space, {power: number for power, number in zip(self._carriers, numbers)})
        number_by_point = value_by_point(self.space, one)
        return [number_by_point[point] for point in self.points]

    def numbers(self, values):
        """The numbers of the word with these values, None if they are no word."""
        # No other polynomial with these values has a lesser degree.
        one = self._elimination.with_values(values)
        if degree(one) > self.most:
            return None
        return [number_of(one, power) for power in self._carriers]

    def distance(self):
        """The least number of places at which two words differ, None if there is only one word."""
        # Two words differ where their difference is not 0, and it is a word.
        nothing = [0] * len(self.points)
        return min([places_apart(word, nothing) for word in all_words(self)[1:]], default=None)

    def nearest(self, values):
        """A word that differs from a list of values at the fewest places."""
        return min(all_words(self), key=lambda word: places_apart(word, values))


def all_words(code):
    """All words of a code; the first one is that of numbers 0 alone."""
    prime = code.space.prime
    many = len(code.carriers())
    words = [[0] * len(code.points)]
    for at in range(many):
        unit = [0] * many
        unit[at] = 1
        own = code.word(unit)
        words = [moved(prime, word, number, own) for word in words for number in range(prime)]
    return words


def moved(prime, word, number, other):
    """A word and another one so many times, added."""
    return [(first + number * second) % prime for first, second in zip(word, other)]


def places_apart(one, other):
    """The number of places at which two lists differ."""
    return len([first for first, second in zip(one, other) if first != second])
