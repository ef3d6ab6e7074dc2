"""Promises [6] to [8]."""

import unittest
from itertools import product

from tests.samples import ALL_NAMES, EXPONENTS, SIMPLES, all_matrices, plain_matrix, plain_reflected, unit
from weightwebs.matrices import pieces
from weightwebs.roots import (
    against, as_weight, exponents, height_row, lengths, positive_roots, short_roots, tops,
)

HOW_MANY = {
    "A1": 1, "A2": 3, "A3": 6, "A4": 10, "B2": 4, "B3": 9, "B4": 16, "C3": 9, "C4": 16, "D4": 12, "F4": 24, "G2": 6,
}

TOPS = {
    "A1": (1,), "A2": (1, 1), "A3": (1, 1, 1), "A4": (1, 1, 1, 1), "B2": (1, 2), "B3": (1, 2, 2),
    "B4": (1, 2, 2, 2), "C3": (2, 2, 1), "C4": (2, 2, 2, 1), "D4": (1, 2, 1, 1), "F4": (2, 3, 4, 2), "G2": (3, 2),
}

SHORT = {
    "A1": 1, "A2": 3, "A3": 6, "A4": 10, "B2": 2, "B3": 3, "B4": 4, "C3": 6, "C4": 12, "D4": 12, "F4": 12, "G2": 3,
}


def plain_weight(matrix, c):
    v = (0,) * len(matrix)
    for i, many in enumerate(c):
        v = tuple(v[j] + many * matrix[i][j] for j in range(len(v)))
    return v


def all_roots(matrix):
    """The roots of any sign: what all reflections make of the simple ones."""
    found = {unit(len(matrix), i) for i in range(len(matrix))}
    ahead = list(found)
    while ahead:
        c = ahead.pop()
        w = plain_weight(matrix, c)
        for i in range(len(c)):
            other = c[:i] + (c[i] - w[i],) + c[i + 1:]
            if other not in found:
                found.add(other)
                ahead.append(other)
    return found


def square(matrix, c):
    d = lengths(matrix)
    w = plain_weight(matrix, c)
    return sum(c[i] * d[i] * w[i] for i in range(len(c)))


class Roots(unittest.TestCase):
    def test_the_example(self):
        matrix = ((2, -2), (-1, 2))
        self.assertEqual(positive_roots(matrix), ((0, 1), (1, 0), (1, 1), (1, 2)))
        self.assertEqual(as_weight(matrix, (1, 0)), (2, -2))

    def test_others_by_hand(self):
        self.assertEqual(
            positive_roots(plain_matrix("G2")), ((0, 1), (1, 0), (1, 1), (2, 1), (3, 1), (3, 2))
        )
        self.assertEqual(
            positive_roots(plain_matrix("A1+A2")), ((0, 0, 1), (0, 1, 0), (1, 0, 0), (0, 1, 1))
        )
        self.assertEqual(positive_roots(((2, -1), (-2, 2))), ((0, 1), (1, 0), (1, 1), (2, 1)))
        self.assertEqual(
            positive_roots(plain_matrix("C3")),
            ((0, 0, 1), (0, 1, 0), (1, 0, 0), (0, 1, 1), (1, 1, 0), (0, 2, 1), (1, 1, 1), (1, 2, 1), (2, 2, 1)),
        )

    def test_every_name_in_every_listing(self):
        for name, matrix in all_matrices():
            told = positive_roots(matrix)
            self.assertIsInstance(told, tuple)
            self.assertEqual(len(told), sum(HOW_MANY[part] for part in name.split("+")))
            wanted = [c for c in all_roots(matrix) if min(c) >= 0]
            self.assertEqual(list(told), sorted(wanted, key=lambda c: (sum(c), c)))

    def test_as_weight_of_any_integers(self):
        self.assertEqual(as_weight(((2, -2), (-1, 2)), (3, -5)), (11, -16))
        self.assertEqual(as_weight(((2, -1), (-3, 2)), (0, 0)), (0, 0))
        for name in ALL_NAMES:
            matrix = plain_matrix(name)
            rank = len(matrix)
            for c in ((7, -3, 0, 11), (-1, -1, -1, -1), (10 ** 25, 1, -10 ** 24, 5)):
                self.assertEqual(as_weight(matrix, c[:rank]), plain_weight(matrix, c[:rank]))
            for i in range(rank):
                self.assertEqual(as_weight(matrix, unit(rank, i)), matrix[i])


class Lengths(unittest.TestCase):
    def test_by_hand(self):
        wanted = {
            "A3": (1, 1, 1), "B2": (2, 1), "B3": (2, 2, 1), "B4": (2, 2, 2, 1), "C3": (1, 1, 2),
            "C4": (1, 1, 1, 2), "D4": (1, 1, 1, 1), "F4": (2, 2, 1, 1), "G2": (1, 3), "B2+G2": (2, 1, 1, 3),
        }
        for name, d in wanted.items():
            self.assertEqual(lengths(plain_matrix(name)), d)
        self.assertEqual(lengths(((2, -1), (-2, 2))), (1, 2))
        self.assertEqual(lengths(((2, -3), (-1, 2))), (3, 1))

    def test_every_name_in_every_listing(self):
        for name, matrix in all_matrices():
            d = lengths(matrix)
            for i, j in product(range(len(matrix)), repeat=2):
                self.assertEqual(d[j] * matrix[i][j], d[i] * matrix[j][i])
            for piece in pieces(matrix):
                self.assertEqual(min(d[i] for i in piece), 1)


class Against(unittest.TestCase):
    def weights(self, rank):
        return [v[:rank] for v in ((0, 0, 0, 0), (1, 1, 1, 1), (3, -2, 5, 0), (-7, 4, 0, 1), (10 ** 20 + 1, 3, -10 ** 21, 8))]

    def test_by_hand(self):
        matrix = ((2, -2), (-1, 2))
        self.assertEqual(against(matrix, (5, 3), (1, 1)), 13)
        self.assertEqual(against(matrix, (5, 3), (1, 2)), 8)
        self.assertEqual(against(matrix, (5, -3), (0, 1)), -3)
        self.assertEqual(against(plain_matrix("G2"), (1, 1), (3, 2)), 3)
        self.assertEqual(against(plain_matrix("G2"), (1, 1), (1, 1)), 4)

    def test_simple_roots_give_the_entries(self):
        for name, matrix in all_matrices():
            for v in self.weights(len(matrix)):
                for i in range(len(matrix)):
                    self.assertEqual(against(matrix, v, unit(len(matrix), i)), v[i])

    def test_reflections_move_both_alike(self):
        for name in ALL_NAMES:
            matrix = plain_matrix(name)
            for c in positive_roots(matrix):
                w = plain_weight(matrix, c)
                for i, v in product(range(len(matrix)), self.weights(len(matrix))):
                    other = c[:i] + (c[i] - w[i],) + c[i + 1:]
                    told = against(matrix, v, c)
                    self.assertIsInstance(told, int)
                    self.assertEqual(told, against(matrix, plain_reflected(matrix, v, i), other))

    def test_roots_of_any_sign_and_no_remainder(self):
        for name in ALL_NAMES:
            matrix = plain_matrix(name)
            d = lengths(matrix)
            for c, v in product(all_roots(matrix), self.weights(len(matrix))):
                told = against(matrix, v, c)
                self.assertEqual(told * square(matrix, c), 2 * sum(c[i] * d[i] * v[i] for i in range(len(c))))
                self.assertEqual(against(matrix, v, tuple(-entry for entry in c)), -told)


class ShortRoots(unittest.TestCase):
    def test_by_hand(self):
        self.assertEqual(short_roots(((2, -2), (-1, 2))), ((0, 1), (1, 1)))
        self.assertEqual(short_roots(plain_matrix("G2")), ((1, 0), (1, 1), (2, 1)))
        self.assertEqual(short_roots(plain_matrix("A2")), ((0, 1), (1, 0), (1, 1)))
        self.assertEqual(short_roots(plain_matrix("A1+B2")), ((0, 0, 1), (1, 0, 0), (0, 1, 1)))

    def test_least_within_each_piece(self):
        for name, matrix in all_matrices():
            told = short_roots(matrix)
            self.assertEqual(len(told), sum(SHORT[part] for part in name.split("+")))
            wanted = []
            for c in positive_roots(matrix):
                piece = [p for p in pieces(matrix) if any(c[i] for i in p)][0]
                others = [e for e in positive_roots(matrix) if any(e[i] for i in piece)]
                if square(matrix, c) == min(square(matrix, e) for e in others):
                    wanted.append(c)
            self.assertEqual(told, tuple(wanted))


class Heights(unittest.TestCase):
    def test_tops_by_hand(self):
        for name, c in TOPS.items():
            self.assertEqual(tops(plain_matrix(name)), (c,))
        self.assertEqual(tops(plain_matrix("B2+G2")), ((1, 2, 0, 0), (0, 0, 3, 2)))
        self.assertEqual(tops(plain_matrix("A1+A1")), ((1, 0), (0, 1)))
        matrix = ((2, 0, -1), (0, 2, 0), (-2, 0, 2))
        self.assertEqual(tops(matrix), ((2, 0, 1), (0, 1, 0)))

    def test_one_top_for_each_piece(self):
        for name, matrix in all_matrices():
            roots = positive_roots(matrix)
            wanted = []
            for piece in pieces(matrix):
                inside = [c for c in roots if all(i in piece for i in range(len(c)) if c[i])]
                highest = max(sum(c) for c in inside)
                there = [c for c in inside if sum(c) == highest]
                self.assertEqual(len(there), 1)
                wanted += there
            self.assertEqual(tops(matrix), tuple(wanted))

    def test_height_row(self):
        self.assertEqual(height_row(plain_matrix("A1")), (1,))
        self.assertEqual(height_row(plain_matrix("B2")), (2, 1, 1))
        self.assertEqual(height_row(plain_matrix("G2")), (2, 1, 1, 1, 1))
        self.assertEqual(height_row(plain_matrix("D4")), (4, 3, 3, 1, 1))
        self.assertEqual(height_row(plain_matrix("F4")), (4, 3, 3, 3, 3, 2, 2, 1, 1, 1, 1))
        self.assertEqual(height_row(plain_matrix("A1+A1+G2")), (4, 1, 1, 1, 1))
        for name, matrix in all_matrices():
            row = height_row(matrix)
            heights = [sum(c) for c in positive_roots(matrix)]
            self.assertEqual(row, tuple(heights.count(h + 1) for h in range(max(heights))))

    def test_exponents(self):
        for name in SIMPLES:
            self.assertEqual(exponents(plain_matrix(name)), EXPONENTS[name])
        for name, matrix in all_matrices():
            told = exponents(matrix)
            self.assertEqual(list(told), sorted(e for part in name.split("+") for e in EXPONENTS[part]))
            self.assertEqual(len(told), len(matrix))
            self.assertEqual(sum(told), len(positive_roots(matrix)))
