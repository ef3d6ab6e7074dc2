"""Promises [23] and [24]."""

import unittest
from itertools import product

from tests.plain_webs import listed_anew, listed_webs, plain_weight
from tests.samples import (
    ALL_NAMES, NAMES, SMALL, action, all_listed, all_matrices, first_words, grown_words, plain_matrix, plain_moved,
    plain_reflected,
)
from tests.test_crystals import EIGHT, FIVE, LINE, ONE, SIX, THREE, ZERO
from weightwebs.groups import longest_word, orbit
from weightwebs.turns import corner_points, opposite, point_moved, string_turned, turned_over
from weightwebs.webs import crystal

# Rows that a word of greatest length exchanges, for the simple names; all others keep their rows.
OPPOSITES = {"A2": (1, 0), "A3": (2, 1, 0), "A4": (3, 2, 1, 0)}


def plain_string(told, p, i):
    """All points on the string of arrows i through p, from its first one on."""
    arrows = told[1]
    line = [p]
    while arrows[line[-1]][i] >= 0:
        line.append(arrows[line[-1]][i])
    found = True
    while found:
        found = [q for q in range(len(arrows)) if arrows[q][i] == line[0]]
        line = found + line
    return line


def plain_opposite(name):
    found = ()
    for part in name.split("+"):
        rows = OPPOSITES.get(part, tuple(range(int(part[1]))))
        found += tuple(len(found) + k for k in rows)
    return found


class StringTurned(unittest.TestCase):
    def test_at_an_end(self):
        self.assertEqual(string_turned(ONE, 0, 0), 1)
        self.assertEqual(string_turned(ONE, 1, 0), 0)
        self.assertEqual(string_turned(LINE, 0, 0), 3)
        self.assertEqual(string_turned(EIGHT, 1, 1), 5)
        self.assertEqual(string_turned(EIGHT, 5, 1), 1)
        self.assertEqual(string_turned(FIVE, 3, 1), 1)

    def test_in_the_middle(self):
        self.assertEqual(string_turned(LINE, 1, 0), 2)
        self.assertEqual(string_turned(LINE, 2, 0), 1)
        self.assertEqual(string_turned(EIGHT, 3, 1), 3)
        self.assertEqual(string_turned(FIVE, 2, 1), 2)
        five = crystal(plain_matrix("A1"), (4,))
        self.assertEqual([string_turned(five, p, 0) for p in range(5)], [4, 3, 2, 1, 0])

    def test_alone(self):
        self.assertEqual(string_turned(ZERO, 0, 0), 0)
        self.assertEqual(string_turned(THREE, 0, 1), 0)
        self.assertEqual(string_turned(EIGHT, 3, 0), 3)
        self.assertEqual(string_turned(FIVE, 2, 0), 2)

    def test_every_point(self):
        for matrix, t in listed_webs(110):
            told = crystal(matrix, t)
            for p, i in product(range(len(told[0])), range(len(matrix))):
                line = plain_string(told, p, i)
                q = string_turned(told, p, i)
                self.assertEqual(q, line[::-1][line.index(p)])
                self.assertEqual(told[0][q], plain_reflected(matrix, told[0][p], i))
                self.assertEqual(string_turned(told, q, i), p)


class PointMoved(unittest.TestCase):
    def test_by_hand(self):
        self.assertEqual(point_moved(THREE, 0, (1, 0)), 2)
        self.assertEqual(point_moved(THREE, 0, (0, 1)), 1)
        self.assertEqual(point_moved(SIX, 2, (0, 1, 0)), 2)
        self.assertEqual(point_moved(SIX, 2, (0, 1)), 3)
        self.assertEqual(point_moved(EIGHT, 0, (0, 1, 0)), 7)

    def test_the_empty_word(self):
        for told in (ONE, ZERO, LINE, THREE, EIGHT, FIVE, SIX):
            for p in range(len(told[0])):
                self.assertEqual(point_moved(told, p, ()), p)

    def test_in_sequence(self):
        for matrix, t in listed_webs(30):
            told = crystal(matrix, t)
            for word in product(range(len(matrix)), repeat=3):
                for p in (0, len(told[0]) // 2, len(told[0]) - 1):
                    q = p
                    for i in word[::-1]:
                        line = plain_string(told, q, i)
                        q = line[::-1][line.index(q)]
                    self.assertEqual(point_moved(told, p, word), q)

    def test_like_words_lead_to_one_point(self):
        for name, t in (("A2", (2, 1)), ("B2", (1, 2)), ("G2", (1, 1)), ("A1+A1", (2, 3)), ("A3", (1, 1, 0))):
            matrix = plain_matrix(name)
            told = crystal(matrix, t)
            found = first_words(matrix)
            for k in range(6):
                for word in product(range(len(matrix)), repeat=k):
                    first = found[action(matrix, word)]
                    for p in range(0, len(told[0]), 3):
                        self.assertEqual(point_moved(told, p, word), point_moved(told, p, first))

    def test_words_of_greatest_length(self):
        for matrix, t in listed_webs(60):
            told = crystal(matrix, t)
            word = longest_word(matrix)
            for p in range(len(told[0])):
                q = point_moved(told, p, word)
                self.assertEqual(point_moved(told, p, word[::-1]), q)
                self.assertEqual(point_moved(told, q, word), p)
                self.assertEqual(told[0][q], plain_moved(matrix, told[0][p], word))


class CornerPoints(unittest.TestCase):
    def test_by_hand(self):
        self.assertEqual(corner_points(plain_matrix("A1"), ZERO), (0,))
        self.assertEqual(corner_points(plain_matrix("A1"), LINE), (0, 3))
        self.assertEqual(corner_points(plain_matrix("A2"), THREE), (0, 1, 2))
        self.assertEqual(corner_points(plain_matrix("A2"), EIGHT), (0, 1, 2, 5, 6, 7))
        self.assertEqual(corner_points(plain_matrix("B2"), FIVE), (0, 1, 3, 4))
        self.assertEqual(corner_points(plain_matrix("A1+A1"), SIX), (0, 1, 4, 5))

    def test_points_of_the_orbit(self):
        # The weights of the orbit come once, so the points that have them are the corners.
        for matrix, t in listed_webs(400):
            told = crystal(matrix, t)
            weights = orbit(matrix, t)
            wanted = tuple(p for p, weight in enumerate(told[0]) if weight in weights)
            self.assertEqual(corner_points(matrix, told), wanted)
            self.assertEqual(len(wanted), len(weights))

    def test_all_words(self):
        for name, t in (("A2", (2, 1)), ("G2", (1, 0)), ("A3", (1, 0, 1)), ("A1+B2", (1, 0, 1))):
            matrix = plain_matrix(name)
            told = crystal(matrix, t)
            points = {point_moved(told, 0, word) for word in grown_words(matrix).values()}
            self.assertEqual(corner_points(matrix, told), tuple(sorted(points)))


class Opposite(unittest.TestCase):
    def test_every_name(self):
        for name in ALL_NAMES:
            self.assertEqual(opposite(plain_matrix(name)), plain_opposite(name))

    def test_by_hand(self):
        self.assertEqual(opposite(plain_matrix("A1")), (0,))
        self.assertEqual(opposite(plain_matrix("A4")), (3, 2, 1, 0))
        self.assertEqual(opposite(plain_matrix("D4")), (0, 1, 2, 3))
        self.assertEqual(opposite(plain_matrix("A2+A2")), (1, 0, 3, 2))
        self.assertEqual(opposite(plain_matrix("A1+A3")), (0, 3, 2, 1))
        self.assertEqual(opposite(((2, 0, -1), (0, 2, -1), (-1, -1, 2))), (1, 0, 2))

    def test_every_listing(self):
        for name, matrix in all_matrices():
            rows = opposite(matrix)
            word = longest_word(matrix)
            for i, j in enumerate(rows):
                moved = plain_moved(matrix, plain_weight(matrix, tuple(int(k == i) for k in range(len(rows)))), word)
                self.assertEqual(moved, tuple(-entry for entry in matrix[j]))
            self.assertEqual(listed_anew(rows, rows), tuple(range(len(rows))))

    def test_only_the_names_a_turn(self):
        for name in [name for row in NAMES for name in row]:
            parts = name.split("+")
            kept = not any(part in OPPOSITES for part in parts)
            for matrix in all_listed(name):
                self.assertEqual(opposite(matrix) == tuple(range(len(matrix))), kept)


class TurnedOver(unittest.TestCase):
    def test_by_hand(self):
        a1 = plain_matrix("A1")
        self.assertEqual(turned_over(a1, ZERO), (0,))
        self.assertEqual(turned_over(a1, ONE), (1, 0))
        self.assertEqual(turned_over(a1, LINE), (3, 2, 1, 0))
        self.assertEqual(turned_over(plain_matrix("A2"), THREE), (2, 1, 0))
        # From point 0 by 0, 1, 1, 0 and by 1, 0, 0, 1; from point 7 backward by 1, 0, 0, 1 and by 0, 1, 1, 0.
        self.assertEqual(turned_over(plain_matrix("A2"), EIGHT), (7, 6, 5, 4, 3, 2, 1, 0))
        self.assertEqual(turned_over(plain_matrix("B2"), FIVE), (4, 3, 2, 1, 0))
        self.assertEqual(turned_over(plain_matrix("A1+A1"), SIX), (5, 4, 3, 2, 1, 0))

    def check(self, matrix, t):
        told = crystal(matrix, t)
        points = turned_over(matrix, told)
        rows = opposite(matrix)
        self.assertEqual(sorted(points), list(range(len(told[0]))))
        self.assertEqual(points[0], len(told[0]) - 1)
        for p, row in enumerate(told[1]):
            for i, q in enumerate(row):
                if q >= 0:
                    self.assertEqual(told[1][points[q]][rows[i]], points[p])
        self.assertEqual(listed_anew(points, points), tuple(range(len(points))))

    def test_what_makes_it(self):
        for matrix, t in listed_webs(400):
            self.check(matrix, t)

    def test_every_listing(self):
        for name in SMALL + ("A4", "D4", "A1+A3", "A2+A2"):
            for matrix in all_listed(name):
                self.check(matrix, (1, 0, 0, 1)[:len(matrix)])
