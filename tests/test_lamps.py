"""lamps.py: points 12.1 and 12.2 of the document, and 0.3, 0.4 and 0.5 for its functions."""

import copy
import itertools
import random
import unittest

from helpers import SIZES, all_tuples, plain_table, plain_value, well_formed
from standingpowers.lamps import colourings, lamps, least_way
from standingpowers.reading import read_polynomial
from standingpowers.systems import System


def pressed(prime, neighbours, start, way):
    """What the lamps show when each has been pressed so often, by the words of point 12.1."""
    shown = list(start)
    for lamp, times in enumerate(way):
        for _ in range(times):
            for other in [lamp] + neighbours[lamp]:
                shown[other] = (shown[other] + 1) % prime
    return shown


def some_neighbours(count):
    """Always the same lists: none, all, in a row, only the next one, and others, not always both ways."""
    chance = random.Random(count)
    found = [[[] for _ in range(count)], [[at for at in range(count) if at != lamp] for lamp in range(count)],
             [[at for at in (lamp - 1, lamp + 1) if 0 <= at < count] for lamp in range(count)],
             [[lamp + 1] if lamp + 1 < count else [] for lamp in range(count)]]
    for _ in range(3):
        found.append([[at for at in range(count) if at != lamp and chance.random() < 0.4] for lamp in range(count)])
    return found


def some_lamps(prime, count):
    """Neighbours with starts and goals."""
    chance = random.Random(prime * 10 + count)
    for neighbours in some_neighbours(count):
        for _ in range(2):
            yield (neighbours, [chance.randrange(prime) for _ in range(count)],
                   [chance.randrange(prime) for _ in range(count)])
        start = [chance.randrange(prime) for _ in range(count)]
        yield neighbours, start, list(start)
        yield neighbours, start, pressed(prime, neighbours, start, [chance.randrange(prime) for _ in range(count)])


def some_graphs(count):
    """Lists of edges: none, all, a ring, all both ways, one twice, and others."""
    chance = random.Random(count)
    pairs = [(i, j) for i in range(count) for j in range(count) if i < j]
    found = [[], pairs, [(i, (i + 1) % count) for i in range(count) if count > 1], pairs + [(j, i) for i, j in pairs],
             pairs[-1:] * 2]
    for _ in range(4):
        chosen = [pair for pair in pairs if chance.random() < 0.4]
        found.append([chance.choice([(i, j), (j, i)]) for i, j in chosen])
    return found


class LampsTest(unittest.TestCase):
    def test_the_solutions_are_the_ways(self):
        for prime, count in SIZES:
            for neighbours, start, goal in some_lamps(prime, count):
                system = lamps(prime, neighbours, start, goal)
                self.assertIs(type(system), System)
                ways = [way for way in all_tuples(prime, count) if pressed(prime, neighbours, start, way) == goal]
                self.assertEqual(system.solutions(), ways)

    def test_its_equations(self):
        for prime, count in SIZES:
            for neighbours, start, goal in some_lamps(prime, count):
                system = lamps(prime, neighbours, start, goal)
                self.assertEqual(system.space.prime, prime)
                self.assertEqual(system.space.names, ["x0", "x1", "x2", "x3", "x4", "x5", "x6", "x7"][:count])
                self.assertEqual(len(system.equations), count)
                for lamp, equation in enumerate(system.equations):
                    self.assertTrue(well_formed(prime, count, equation))
                    adds = [other for other in range(count) if other == lamp or lamp in neighbours[other]]
                    self.assertLessEqual(len(equation), len(adds) + 1)
                    for point in all_tuples(prime, count)[::5]:
                        wanted = sum(point[other] for other in adds) + start[lamp] - goal[lamp]
                        self.assertEqual(plain_value(prime, equation, point), wanted % prime)

    def test_by_hand(self):
        # Lamp 0 adds to lamp 1, but not the other way round.
        system = lamps(3, [[1], [], [0, 1]], [1, 2, 0], [0, 0, 2])
        self.assertEqual(system.equations, [read_polynomial(system.space, text)
                                            for text in ("x0 + x2 + 1", "x0 + x1 + x2 + 2", "x2 - 2")])
        self.assertEqual(system.solutions(), [(0, 2, 2)])

    def test_without_neighbours(self):
        for prime, count in SIZES:
            start = [at % prime for at in range(count)]
            goal = [1] * count
            system = lamps(prime, [[] for _ in range(count)], start, goal)
            self.assertEqual(system.solutions(), [tuple((1 - number) % prime for number in start)])

    def test_one_lamp(self):
        for prime in (2, 3, 5, 7):
            for start, goal in itertools.product(range(prime), repeat=2):
                self.assertEqual(lamps(prime, [[]], [start], [goal]).solutions(), [((goal - start) % prime,)])


class LeastWayTest(unittest.TestCase):
    def test_by_all_ways(self):
        for prime, count in SIZES:
            for neighbours, start, goal in some_lamps(prime, count):
                ways = [way for way in all_tuples(prime, count) if pressed(prime, neighbours, start, way) == goal]
                found = least_way(prime, neighbours, start, goal)
                if ways:
                    self.assertIs(type(found), tuple)
                    self.assertIn(found, ways)
                    self.assertEqual(sum(found), min(sum(way) for way in ways))
                else:
                    self.assertIsNone(found)

    def test_nothing_to_press(self):
        for prime, count in SIZES:
            for neighbours in some_neighbours(count):
                self.assertEqual(least_way(prime, neighbours, [1] * count, [1] * count), (0,) * count)

    def test_no_way(self):
        # Each lamp adds to both, so that they always differ by the same number.
        self.assertIsNone(least_way(2, [[1], [0]], [0, 0], [0, 1]))
        self.assertIsNone(least_way(3, [[1], [0]], [1, 1], [2, 0]))
        self.assertEqual(lamps(3, [[1], [0]], [1, 1], [2, 0]).solutions(), [])

    def test_the_least_and_not_the_first(self):
        # Lamp 0 adds to all lamps, as lamps 1 and 2 do together.
        neighbours = [[1, 2], [0], []]
        self.assertEqual(lamps(2, neighbours, [0, 0, 0], [1, 1, 1]).solutions(), [(0, 1, 1), (1, 0, 0)])
        self.assertEqual(least_way(2, neighbours, [0, 0, 0], [1, 1, 1]), (1, 0, 0))
        self.assertEqual(least_way(2, [[1], [], [3], []], [0, 0, 0, 0], [1, 1, 1, 1]), (1, 0, 1, 0))
        self.assertEqual(sum(least_way(5, [[1, 2], [0, 2], [0, 1]], [0, 0, 0], [4, 4, 4])), 4)

    def test_the_sum_of_integers(self):
        # Both lamps add to both: (0, 3), (1, 2), (2, 1), (3, 0) and (4, 4) all add 3 modulo 5.
        self.assertEqual(len(lamps(5, [[1], [0]], [0, 0], [3, 3]).solutions()), 5)
        self.assertEqual(sum(least_way(5, [[1], [0]], [0, 0], [3, 3])), 3)


class ColouringsTest(unittest.TestCase):
    def test_the_solutions_are_the_colourings(self):
        for prime, count in SIZES:
            for edges in some_graphs(count):
                system = colourings(prime, count, edges)
                self.assertIs(type(system), System)
                self.assertEqual(system.space.prime, prime)
                self.assertEqual(system.space.names, ["x0", "x1", "x2", "x3", "x4", "x5", "x6", "x7"][:count])
                wanted = [point for point in all_tuples(prime, count) if all(point[i] != point[j] for i, j in edges)]
                self.assertEqual(system.solutions(), wanted)

    def test_its_equations(self):
        for prime, count in SIZES:
            for edges in some_graphs(count):
                system = colourings(prime, count, edges)
                self.assertEqual(len(system.equations), len(edges))
                for (i, j), equation in list(zip(edges, system.equations))[:3]:
                    self.assertTrue(well_formed(prime, count, equation))
                    wanted = [1 if point[i] == point[j] else 0 for point in all_tuples(prime, count)]
                    self.assertEqual(plain_table(prime, count, equation), wanted)

    def test_by_hand(self):
        system = colourings(3, 3, [(0, 1), (2, 1)])
        self.assertEqual(system.equations, [read_polynomial(system.space, text)
                                            for text in ("1 - (x0 - x1)^2", "1 - (x2 - x1)^2")])
        two = colourings(2, 2, [(1, 0)])
        self.assertEqual(two.equations, [read_polynomial(two.space, "1 + x0 + x1")])
        self.assertEqual(two.solutions(), [(0, 1), (1, 0)])

    def test_without_edges(self):
        for prime, count in SIZES:
            system = colourings(prime, count, [])
            self.assertEqual(system.equations, [])
            self.assertEqual(system.solutions(), all_tuples(prime, count))

    def test_graphs_that_cannot_be_coloured(self):
        self.assertEqual(colourings(2, 3, [(0, 1), (1, 2), (0, 2)]).solutions(), [])
        pairs = list(itertools.combinations(range(4), 2))
        self.assertEqual(colourings(3, 4, pairs).solutions(), [])
        self.assertEqual(len(colourings(3, 3, pairs[:2] + [(1, 2)]).solutions()), 6)
        self.assertEqual(len(colourings(2, 8, [(at, (at + 1) % 8) for at in range(8)]).solutions()), 2)


class ListsTest(unittest.TestCase):
    def test_lists_are_new_each_time(self):
        neighbours = [[1], [0], [1]]
        system = lamps(2, neighbours, [0, 1, 0], [1, 1, 1])
        kept = list(system.equations)
        system.equations.clear()
        self.assertEqual(lamps(2, neighbours, [0, 1, 0], [1, 1, 1]).equations, kept)
        graph = colourings(3, 2, [(0, 1)])
        graph.equations.append(())
        self.assertEqual(len(colourings(3, 2, [(0, 1)]).equations), 1)

    def test_arguments_stay_as_they_were(self):
        for prime, count in SIZES:
            for neighbours, start, goal in some_lamps(prime, count):
                kept = copy.deepcopy((neighbours, start, goal))
                system = lamps(prime, neighbours, start, goal)
                least_way(prime, neighbours, start, goal)
                self.assertEqual((neighbours, start, goal), kept)
                equations = list(system.equations)
                neighbours[0].append(0)
                start[0] += 1
                goal.clear()
                self.assertEqual(system.equations, equations)
            for edges in some_graphs(count):
                kept = list(edges)
                system = colourings(prime, count, edges)
                self.assertEqual(edges, kept)
                edges.append((0, 1))
                self.assertEqual(len(system.equations), len(kept))


if __name__ == "__main__":
    unittest.main()
