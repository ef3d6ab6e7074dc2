"""Promise [21]."""

import unittest
from fractions import Fraction
from math import gcd

from tests.plain_paths import (
    fractions_of, plain_least, plain_lowered, plain_paths, plain_raised, plain_straight, ratios_of,
)
from tests.plain_webs import listed_webs
from tests.samples import ALL_NAMES, all_listed, plain_matrix
from weightwebs.paths import lowered, raised, straight

ZERO = ((0, 1),)


def path(*points):
    """A path from the entries of its points, integers or fractions."""
    return ratios_of([tuple(Fraction(entry) for entry in point) for point in points])


def longer_told(told):
    """The same path, with points straight between others, and with points twice."""
    points = fractions_of(told)
    found = [points[0], points[0]]
    for start, end in zip(points, points[1:]):
        for share in (Fraction(1, 3), Fraction(5, 7), Fraction(5, 7)):
            found.append(tuple(a + share * (b - a) for a, b in zip(start, end)))
        found.extend([end, end, end])
    return ratios_of(found)


class Straight(unittest.TestCase):
    def test_by_hand(self):
        self.assertEqual(straight((2,)), (((0, 1),), ((2, 1),)))
        self.assertEqual(straight((-3, 4)), (((0, 1), (0, 1)), ((-3, 1), (4, 1))))
        self.assertEqual(straight((0, 6, 0, 10 ** 30)),
                         (((0, 1),) * 4, ((0, 1), (6, 1), (0, 1), (10 ** 30, 1))))

    def test_zeros(self):
        for rank in (1, 2, 3, 4):
            self.assertEqual(straight((0,) * rank), (((0, 1),) * rank,))


class Lowered(unittest.TestCase):
    def test_the_example(self):
        matrix = plain_matrix("A1")
        self.assertEqual(lowered(matrix, straight((2,)), 0), path((0,), (-1,), (0,)))

    def test_by_hand(self):
        matrix = plain_matrix("A1")
        self.assertEqual(lowered(matrix, path((0,), (-1,), (0,)), 0), path((0,), (-2,)))
        self.assertEqual(lowered(matrix, straight((1,)), 0), path((0,), (-1,)))
        self.assertEqual(lowered(matrix, straight((3,)), 0), path((0,), (-1,), (1,)))
        matrix = plain_matrix("A2")
        self.assertEqual(lowered(matrix, straight((1, 1)), 0), path((0, 0), (-1, 2)))
        self.assertEqual(lowered(matrix, straight((2, 1)), 0), path((0, 0), (-1, Fraction(3, 2)), (0, 2)))
        matrix = plain_matrix("G2")
        self.assertEqual(lowered(matrix, path((0, 0), (-1, 1)), 1),
                         path((0, 0), (2, -1)))
        self.assertEqual(lowered(matrix, path((0, 0), (2, -1)), 0),
                         path((0, 0), (-1, Fraction(1, 2)), (0, 0)))

    def test_a_path_that_rises_and_falls(self):
        matrix = plain_matrix("A1")
        self.assertEqual(lowered(matrix, path((0,), (3,), (1,)), 0), path((0,), (-1,), (1,), (-1,)))
        # Only what lies behind the last place of least height is turned about.
        self.assertEqual(lowered(matrix, path((0,), (2,), (0,), (1,)), 0), path((0,), (2,), (-1,)))
        self.assertEqual(lowered(matrix, path((0,), (1,), (Fraction(1, 2),), (3,)), 0),
                         path((0,), (Fraction(-1, 2),), (0,), (-1,), (1,)))
        self.assertEqual(lowered(matrix, path((0,), (1,), (-2,), (-1,)), 0), path((0,), (1,), (-3,)))

    def test_none(self):
        matrix = plain_matrix("A1")
        self.assertIsNone(lowered(matrix, (ZERO,), 0))
        self.assertIsNone(lowered(matrix, straight((-1,)), 0))
        self.assertIsNone(lowered(matrix, path((0,), (5,), (0,)), 0))
        self.assertIsNone(lowered(matrix, path((0,), (5,), (Fraction(2, 3),)), 0))
        self.assertIsNone(lowered(plain_matrix("A2"), straight((0, 3)), 0))
        self.assertIsNone(lowered(plain_matrix("A2"), path((0, 0), (0, Fraction(99, 100))), 1))
        self.assertIsNotNone(lowered(plain_matrix("A2"), path((0, 0), (0, 1)), 1))

    def test_great_weights(self):
        great = 10 ** 40
        self.assertEqual(lowered(plain_matrix("A2"), straight((great, 1)), 0),
                         path((0, 0), (-1, Fraction(great + 1, great)), (great - 2, 2)))


class Raised(unittest.TestCase):
    def test_by_hand(self):
        matrix = plain_matrix("A1")
        self.assertEqual(raised(matrix, path((0,), (-1,), (0,)), 0), path((0,), (2,)))
        self.assertEqual(raised(matrix, straight((-1,)), 0), path((0,), (1,)))
        self.assertEqual(raised(matrix, straight((-2,)), 0), path((0,), (-1,), (0,)))
        self.assertEqual(raised(plain_matrix("A2"), path((0, 0), (-1, 2)), 0), straight((1, 1)))
        self.assertEqual(raised(matrix, path((0,), (2,), (-1,)), 0), path((0,), (2,), (0,), (1,)))

    def test_none(self):
        matrix = plain_matrix("A1")
        self.assertIsNone(raised(matrix, (ZERO,), 0))
        self.assertIsNone(raised(matrix, straight((3,)), 0))
        self.assertIsNone(raised(matrix, path((0,), (3,), (0,)), 0))
        self.assertIsNone(raised(plain_matrix("A2"), straight((0, -3)), 0))
        self.assertIsNotNone(raised(plain_matrix("A2"), straight((0, -1)), 1))


class All(unittest.TestCase):
    def check(self, matrix, told):
        least = ratios_of(plain_least(fractions_of(told)))
        for i in range(len(matrix)):
            down = plain_lowered(matrix, told, i)
            up = plain_raised(matrix, told, i)
            self.assertEqual(lowered(matrix, told, i), down)
            self.assertEqual(raised(matrix, told, i), up)
            if down is not None:
                self.assertEqual(raised(matrix, down, i), least)
            if up is not None:
                self.assertEqual(lowered(matrix, up, i), least)

    def test_all_paths_of_webs(self):
        for matrix, t in listed_webs(70):
            for told in plain_paths(matrix, t)[0]:
                self.check(matrix, told)

    def test_paths_told_longer(self):
        for matrix, t in listed_webs(30):
            for told in plain_paths(matrix, t)[0]:
                longer = longer_told(told)
                for i in range(len(matrix)):
                    self.assertEqual(lowered(matrix, longer, i), plain_lowered(matrix, told, i))
                    self.assertEqual(raised(matrix, longer, i), plain_raised(matrix, told, i))

    def test_the_straight_path_is_found_again(self):
        for matrix, t in listed_webs(70):
            self.assertEqual(straight(t), plain_straight(t))
            for told in plain_paths(matrix, t)[0][1:]:
                top = told
                while True:
                    higher = [raised(matrix, top, i) for i in range(len(matrix))]
                    if not any(higher):
                        break
                    top = next(other for other in higher if other is not None)
                self.assertEqual(top, straight(t))

    def paths(self, matrix, many):
        """Paths with corners at ratios whose least values are integers, by a row of numbers like dice."""
        rank = len(matrix)
        state = 1
        found = []
        while len(found) < many:
            points = [(Fraction(0),) * rank]
            for _ in range(5):
                point = []
                for _ in range(rank):
                    state = (state * 1103515245 + 12345) & 0x7FFFFFFF
                    point.append(Fraction((state >> 8) % 13 - 4, (state >> 16) % 3 + 1))
                points.append(tuple(point))
            lows = [min(point[i] for point in points) for i in range(rank)]
            if all(low.denominator == 1 for low in lows):
                found.append(ratios_of(points))
        return found

    def test_other_paths(self):
        for name in ALL_NAMES:
            for matrix in all_listed(name)[:2]:
                for told in self.paths(matrix, 12):
                    self.check(matrix, told)

    def test_form(self):
        for name in ("A1", "B2", "G2", "A3", "F4"):
            matrix = plain_matrix(name)
            for told in self.paths(matrix, 20):
                for i in range(len(matrix)):
                    for other in (lowered(matrix, told, i), raised(matrix, told, i)):
                        if other is not None:
                            self.check_form(other, len(matrix))

    def check_form(self, told, rank):
        self.assertEqual(told[0], ((0, 1),) * rank)
        self.assertEqual(ratios_of(plain_least(fractions_of(told))), told)
        for point in told:
            self.assertIs(type(point), tuple)
            self.assertEqual(len(point), rank)
            for ratio in point:
                self.assertIs(type(ratio), tuple)
                self.assertEqual([type(entry) for entry in ratio], [int, int])
                self.assertGreaterEqual(ratio[1], 1)
                self.assertEqual(gcd(ratio[0], ratio[1]), 1)
