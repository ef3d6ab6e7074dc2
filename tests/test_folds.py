"""Promises [37] and [38]."""

import unittest
from itertools import permutations, product

from tests.plain_webs import listed_anew, listed_webs, plain_size, tops_up_to
from tests.samples import ALL_NAMES, all_listed, plain_listed, plain_matrix
from tests.test_crystals import EIGHT, LINE, ONE, SIX, THREE, ZERO
from tests.test_webs import OVER
from weightwebs.errors import TooMany
from weightwebs.folds import (
    even_points, folded_matrix, folded_web, is_loose, points_turned, rounds, turnings,
)
from weightwebs.judges import crystal_breach
from weightwebs.matrices import matrix_breach
from weightwebs.names import name_of
from weightwebs.webs import crystal

# The turnings of the matrices as they are named, of those that have more than one.
TURNINGS = {
    "A2": ((0, 1), (1, 0)),
    "A3": ((0, 1, 2), (2, 1, 0)),
    "A4": ((0, 1, 2, 3), (3, 2, 1, 0)),
    "D4": ((0, 1, 2, 3), (0, 1, 3, 2), (2, 1, 0, 3), (2, 1, 3, 0), (3, 1, 0, 2), (3, 1, 2, 0)),
    "A1+A1": ((0, 1), (1, 0)),
    "A1+A2": ((0, 1, 2), (0, 2, 1)),
    "A1+A3": ((0, 1, 2, 3), (0, 3, 2, 1)),
    "A2+B2": ((0, 1, 2, 3), (1, 0, 2, 3)),
    "A2+G2": ((0, 1, 2, 3), (1, 0, 2, 3)),
    "B2+B2": ((0, 1, 2, 3), (2, 3, 0, 1)),
    "G2+G2": ((0, 1, 2, 3), (2, 3, 0, 1)),
    "A1+A1+B2": ((0, 1, 2, 3), (1, 0, 2, 3)),
    "A1+A1+G2": ((0, 1, 2, 3), (1, 0, 2, 3)),
    "A1+A1+A2": ((0, 1, 2, 3), (0, 1, 3, 2), (1, 0, 2, 3), (1, 0, 3, 2)),
    "A1+A1+A1": tuple(permutations(range(3))),
    "A1+A1+A1+A1": tuple(permutations(range(4))),
    "A2+A2": (
        (0, 1, 2, 3), (0, 1, 3, 2), (1, 0, 2, 3), (1, 0, 3, 2), (2, 3, 0, 1), (2, 3, 1, 0), (3, 2, 0, 1), (3, 2, 1, 0),
    ),
}

# Loose turnings with the matrices and the names of what they fold to.
FOLDED = (
    ("A1+A1", (1, 0), ((2,),), "A1"),
    ("A1+A1+A1", (1, 2, 0), ((2,),), "A1"),
    ("A1+A1+A1", (0, 2, 1), ((2, 0), (0, 2)), "A1+A1"),
    ("A1+A1+A1+A1", (1, 0, 3, 2), ((2, 0), (0, 2)), "A1+A1"),
    ("A3", (2, 1, 0), ((2, -2), (-1, 2)), "B2"),
    ("D4", (0, 1, 3, 2), ((2, -1, 0), (-1, 2, -1), (0, -2, 2)), "C3"),
    ("D4", (2, 1, 3, 0), ((2, -3), (-1, 2)), "G2"),
    ("D4", (3, 1, 0, 2), ((2, -3), (-1, 2)), "G2"),
    ("D4", (2, 1, 0, 3), ((2, -2, 0), (-1, 2, -1), (0, -1, 2)), "C3"),
    ("A2+A2", (2, 3, 0, 1), ((2, -1), (-1, 2)), "A2"),
    ("A2+A2", (3, 2, 1, 0), ((2, -1), (-1, 2)), "A2"),
    ("B2+B2", (2, 3, 0, 1), ((2, -2), (-1, 2)), "B2"),
    ("G2+G2", (2, 3, 0, 1), ((2, -1), (-3, 2)), "G2"),
    ("A1+A3", (0, 3, 2, 1), ((2, 0, 0), (0, 2, -2), (0, -1, 2)), "A1+B2"),
    ("A1+A1+B2", (1, 0, 2, 3), ((2, 0, 0), (0, 2, -2), (0, -1, 2)), "A1+B2"),
    ("A1+A1+A2", (1, 0, 2, 3), ((2, 0, 0), (0, 2, -1), (0, -1, 2)), "A1+A2"),
)

# Turnings that are not loose.
TIGHT = (
    ("A2", (1, 0)), ("A4", (3, 2, 1, 0)), ("A2+A2", (1, 0, 2, 3)), ("A2+A2", (1, 0, 3, 2)), ("A2+A2", (2, 3, 1, 0)),
    ("A2+A2", (3, 2, 0, 1)), ("A1+A2", (0, 2, 1)), ("A1+A1+A2", (1, 0, 3, 2)), ("A2+B2", (1, 0, 2, 3)),
)


def plain_turnings(matrix):
    rank = len(matrix)
    return [
        listing for listing in permutations(range(rank))
        if all(matrix[listing[i]][listing[j]] == matrix[i][j] for i, j in product(range(rank), repeat=2))
    ]


def is_even(t, listing):
    return listed_anew(t, listing) == t


def even_webs(most):
    """Matrices, topmost weights with webs up to a size, and turnings for which they are even."""
    found = []
    for name in ALL_NAMES:
        for matrix in (all_listed(name)[0], all_listed(name)[-1]):
            tops = [t for t in tops_up_to(matrix, most) if any(t)]
            for listing in plain_turnings(matrix):
                even = [t for t in tops if is_even(t, listing)]
                found += [(matrix, t, listing) for t in even[:2] + even[-1:]]
    return found


def plain_rounds(listing):
    found = set()
    for i in range(len(listing)):
        lot = {i}
        while {listing[k] for k in lot} - lot:
            lot |= {listing[k] for k in lot}
        found.add(tuple(sorted(lot)))
    return tuple(sorted(found))


class Turnings(unittest.TestCase):
    def test_as_named(self):
        for name in ALL_NAMES:
            matrix = plain_matrix(name)
            self.assertEqual(turnings(matrix), TURNINGS.get(name, (tuple(range(len(matrix))),)))

    def test_every_listing(self):
        for name in ALL_NAMES:
            for matrix in all_listed(name):
                found = turnings(matrix)
                self.assertEqual(found, tuple(plain_turnings(matrix)))
                self.assertEqual(found[0], tuple(range(len(matrix))))
                self.assertEqual(len(found), len(TURNINGS.get(name, (0,))))


class PointsTurned(unittest.TestCase):
    def test_by_hand(self):
        self.assertEqual(points_turned(EIGHT, (1, 0)), (0, 2, 1, 4, 3, 6, 5, 7))
        self.assertEqual(points_turned(EIGHT, (0, 1)), tuple(range(8)))
        self.assertEqual(points_turned(LINE, (0,)), (0, 1, 2, 3))
        self.assertEqual(points_turned(crystal(plain_matrix("A1+A1"), (1, 1)), (1, 0)), (0, 2, 1, 3))
        self.assertEqual(points_turned(crystal(plain_matrix("A3"), (0, 1, 0)), (2, 1, 0)), (0, 1, 3, 2, 4, 5))

    def test_the_one_that_changes_nothing(self):
        for told in (ZERO, ONE, LINE, THREE, EIGHT, SIX):
            rank = len(told[0][0])
            self.assertEqual(points_turned(told, tuple(range(rank))), tuple(range(len(told[0]))))
            self.assertEqual(even_points(told, tuple(range(rank))), tuple(range(len(told[0]))))

    def test_what_makes_it(self):
        for matrix, t, listing in even_webs(70):
            told = crystal(matrix, t)
            points = points_turned(told, listing)
            self.assertEqual(sorted(points), list(range(len(told[0]))))
            self.assertEqual(points[0], 0)
            for p, row in enumerate(told[1]):
                for i, q in enumerate(row):
                    self.assertEqual(told[1][points[p]][listing[i]], -1 if q < 0 else points[q])
                    self.assertEqual(told[0][points[p]][listing[i]], told[0][p][i])

    def test_again_and_again(self):
        for matrix, t, listing in even_webs(70):
            points = points_turned(crystal(matrix, t), listing)
            told = points
            rows = listing
            times = 1
            while rows != tuple(range(len(rows))):
                rows = listed_anew(listing, rows)
                told = listed_anew(points, told)
                times += 1
            self.assertLessEqual(times, 4)
            self.assertEqual(told, tuple(range(len(points))))


class EvenPoints(unittest.TestCase):
    def test_by_hand(self):
        self.assertEqual(even_points(EIGHT, (1, 0)), (0, 7))
        self.assertEqual(even_points(crystal(plain_matrix("A1+A1"), (1, 1)), (1, 0)), (0, 3))
        self.assertEqual(even_points(crystal(plain_matrix("A1+A1"), (2, 2)), (1, 0)), (0, 4, 8))
        self.assertEqual(even_points(crystal(plain_matrix("A3"), (0, 1, 0)), (2, 1, 0)), (0, 1, 4, 5))
        self.assertEqual(even_points(ZERO, (0,)), (0,))

    def test_every_turning(self):
        for matrix, t, listing in even_webs(70):
            told = crystal(matrix, t)
            points = points_turned(told, listing)
            self.assertEqual(even_points(told, listing), tuple(p for p in range(len(points)) if points[p] == p))


class Rounds(unittest.TestCase):
    def test_by_hand(self):
        self.assertEqual(rounds((0,)), ((0,),))
        self.assertEqual(rounds((1, 0)), ((0, 1),))
        self.assertEqual(rounds((2, 1, 0)), ((0, 2), (1,)))
        self.assertEqual(rounds((2, 1, 3, 0)), ((0, 2, 3), (1,)))
        self.assertEqual(rounds((3, 1, 0, 2)), ((0, 2, 3), (1,)))
        self.assertEqual(rounds((2, 3, 1, 0)), ((0, 1, 2, 3),))
        self.assertEqual(rounds((3, 2, 1, 0)), ((0, 3), (1, 2)))

    def test_all(self):
        for rank in range(1, 5):
            for listing in permutations(range(rank)):
                self.assertEqual(rounds(listing), plain_rounds(listing))

    def test_loose_ones(self):
        for name, listing, _, _ in FOLDED:
            self.assertIs(is_loose(plain_matrix(name), listing), True)
        for name, listing in TIGHT:
            self.assertIs(is_loose(plain_matrix(name), listing), False)
        for name in ALL_NAMES:
            matrix = plain_matrix(name)
            self.assertIs(is_loose(matrix, tuple(range(len(matrix)))), True)

    def test_loose_in_every_listing(self):
        for name in ALL_NAMES:
            for matrix in all_listed(name):
                for listing in plain_turnings(matrix):
                    lots = plain_rounds(listing)
                    hang = any(matrix[i][j] for lot in lots for i, j in product(lot, repeat=2) if i != j)
                    self.assertIs(is_loose(matrix, listing), not hang)


class FoldedMatrix(unittest.TestCase):
    def test_told(self):
        for name, listing, wanted, folded in FOLDED:
            self.assertEqual(folded_matrix(plain_matrix(name), listing), wanted)
            self.assertEqual(name_of(wanted), folded)

    def test_the_one_that_changes_nothing(self):
        for name in ALL_NAMES:
            for matrix in all_listed(name):
                self.assertEqual(folded_matrix(matrix, tuple(range(len(matrix)))), matrix)

    def test_every_loose_turning(self):
        for name in ALL_NAMES:
            for matrix in all_listed(name):
                for listing in plain_turnings(matrix):
                    if is_loose(matrix, listing):
                        found = folded_matrix(matrix, listing)
                        self.assertIsNone(matrix_breach(found))
                        lots = plain_rounds(listing)
                        for (k, row), (m, lot) in product(enumerate(lots), repeat=2):
                            for j in lot:
                                self.assertEqual(found[k][m], sum(matrix[i][j] for i in row))


class FoldedWeb(unittest.TestCase):
    def test_by_hand(self):
        self.assertEqual(folded_web(plain_matrix("A1+A1"), (1, 1), (1, 0)), ONE)
        self.assertEqual(folded_web(plain_matrix("A1+A1"), (3, 3), (1, 0)), LINE)
        self.assertEqual(folded_web(plain_matrix("A2+A2"), (1, 1, 1, 1), (2, 3, 0, 1)), EIGHT)
        self.assertEqual(folded_web(plain_matrix("A2+A2"), (1, 0, 1, 0), (2, 3, 0, 1)), THREE)
        self.assertEqual(
            folded_web(plain_matrix("A3"), (0, 1, 0), (2, 1, 0)),
            (((0, 1), (1, -1), (-1, 1), (0, -1)), ((-1, 1), (2, -1), (-1, 3), (-1, -1))),
        )

    def test_the_one_that_changes_nothing(self):
        for matrix, t in listed_webs(110):
            self.assertEqual(folded_web(matrix, t, tuple(range(len(t)))), crystal(matrix, t))

    def check(self, matrix, t, listing):
        found = folded_web(matrix, t, listing)
        top = tuple(t[lot[0]] for lot in plain_rounds(listing))
        folded = folded_matrix(matrix, listing)
        self.assertEqual(found, crystal(folded, top))
        self.assertIsNone(crystal_breach(folded, found))
        self.assertEqual(len(found[0]), len(even_points(crystal(matrix, t), listing)))

    def test_every_loose_turning(self):
        for matrix, t, listing in even_webs(110):
            if is_loose(matrix, listing):
                self.check(matrix, t, listing)

    def test_greater_webs(self):
        for name, listing, t in (
            ("A3", (2, 1, 0), (2, 1, 2)), ("A3", (2, 1, 0), (1, 2, 1)), ("D4", (2, 1, 3, 0), (0, 2, 0, 0)),
            ("D4", (0, 1, 3, 2), (1, 0, 1, 1)), ("D4", (2, 1, 0, 3), (1, 0, 1, 1)),
            ("D4", (3, 1, 0, 2), (0, 1, 0, 0)), ("D4", (3, 1, 0, 2), (1, 0, 1, 1)),
            ("A2+A2", (2, 3, 0, 1), (2, 1, 2, 1)), ("B2+B2", (2, 3, 0, 1), (1, 1, 1, 1)),
            ("G2+G2", (2, 3, 0, 1), (0, 1, 0, 1)),
            ("A1+A1", (1, 0), (19, 19)), ("A1+A1+A1+A1", (1, 0, 3, 2), (3, 3, 4, 4)),
            ("A1+A1+A1+A1", (1, 2, 3, 0), (3, 3, 3, 3)), ("A1+A3", (0, 3, 2, 1), (3, 1, 1, 1)),
        ):
            matrix = plain_matrix(name)
            self.assertLessEqual(plain_size(matrix, t), 400)
            self.check(matrix, t, listing)

    def test_rows_listed_anew(self):
        for name, listing, _, folded in FOLDED:
            matrix = plain_matrix(name)
            for order in permutations(range(len(matrix))):
                other = plain_listed(matrix, order)
                turned = tuple(order.index(listing[k]) for k in order)
                self.assertIn(turned, turnings(other))
                self.assertEqual(name_of(folded_matrix(other, turned)), folded)
                self.check(other, tuple(1 if k in rounds(listing)[0] else 0 for k in order), turned)

    def test_limit_by_the_matrix_and_t(self):
        # Just 400 points, and 441 of which only 21 are even.
        matrix = plain_matrix("A1+A1")
        self.assertEqual(folded_web(matrix, (19, 19), (1, 0)), crystal(plain_matrix("A1"), (19,)))
        for name, t, listing in (
            ("A1+A1", (20, 20), (1, 0)), ("A1+A1", (10 ** 30, 10 ** 30), (1, 0)), ("A3", (2, 2, 2), (2, 1, 0)),
            ("D4", (1, 1, 1, 1), (2, 1, 3, 0)), ("A2+A2", (2, 2, 2, 2), (2, 3, 0, 1)),
        ):
            with self.assertRaises(TooMany) as caught:
                folded_web(plain_matrix(name), t, listing)
            self.assertEqual(caught.exception.limit, 400)
        for name, t in OVER:
            with self.assertRaises(TooMany) as caught:
                folded_web(plain_matrix(name), t, tuple(range(len(t))))
            self.assertEqual(caught.exception.limit, 400)
