"""Promises [4] and [5]."""

import unittest
from itertools import permutations

from tests.samples import ALL_NAMES, NAMES, SIMPLES, all_matrices, plain_listed, plain_matrix
from weightwebs.errors import NotName
from weightwebs.matrices import listed
from weightwebs.names import listing_of, matrix_of, name_of, names


class MatrixOf(unittest.TestCase):
    def test_simple_names(self):
        for name, matrix in SIMPLES.items():
            self.assertEqual(matrix_of(name), matrix)

    def test_several_summands(self):
        self.assertEqual(matrix_of("A1+A1"), ((2, 0), (0, 2)))
        self.assertEqual(matrix_of("A1+B2"), ((2, 0, 0), (0, 2, -2), (0, -1, 2)))
        self.assertEqual(
            matrix_of("B2+G2"), ((2, -2, 0, 0), (-1, 2, 0, 0), (0, 0, 2, -1), (0, 0, -3, 2))
        )
        self.assertEqual(
            matrix_of("A1+C3"), ((2, 0, 0, 0), (0, 2, -1, 0), (0, -1, 2, -1), (0, 0, -2, 2))
        )
        for name in ALL_NAMES:
            self.assertEqual(matrix_of(name), plain_matrix(name))

    def test_all_other_strings(self):
        wrong = [
            "", "+", "++", "A", "2", "A0", "A5", "A9", "B1", "B0", "B5", "C1", "C2", "C5", "D1", "D2", "D3",
            "D5", "E4", "E6", "F1", "F2", "F3", "F5", "G1", "G3", "G4", "H2", "a1", "b2", "AA", "11", "1A",
            "A10", "A1A1", "A11", "A01", "A-1", "A1-A1", "A1,A1", "A1 ", " A1", "A1\n", "\nA1", "A 1",
            "A1 + A1", "A1+ A1", "A1 +A1", "A1+", "+A1", "A1++A1", "A1+A1+", "+A1+A1", "A2+A1", "B2+A1",
            "B2+A2", "G2+B2", "G2+A2", "A1+A2+A1", "B3+A1", "A1+A4", "A2+A3", "A3+A3", "A4+A4", "F4+G2",
            "A1+A1+A1+A1+A1", "A2+A2+A2", "A1+A1+A3", "A1+D4", "B3+G2", "A1+B1", "C2+C2", "A1+Z9", "None",
            "A1+a1", "A\u0661", "\u0391\u0031", "A1\u00a0", "A1+A1" * 50,
        ]
        for name in wrong:
            with self.subTest(name=name):
                with self.assertRaises(NotName):
                    matrix_of(name)

    def test_just_the_names_are_names(self):
        letters = ["A1", "A2", "A3", "A4", "B2", "B3", "B4", "C3", "C4", "D4", "F4", "G2", "B1", "C2", "D3"]
        strings = letters + [a + "+" + b for a in letters for b in letters]
        strings += [a + "+" + b + "+" + c for a in letters for b in letters for c in letters]
        found = []
        for name in strings:
            try:
                matrix_of(name)
            except NotName:
                continue
            found.append(name)
        self.assertEqual(sorted(found), sorted(name for name in ALL_NAMES if name.count("+") < 3))


class NameOf(unittest.TestCase):
    def test_every_name_in_every_listing(self):
        for name, matrix in all_matrices():
            self.assertEqual(name_of(matrix), name)

    def test_least_of_all_listings_that_fit(self):
        for name, matrix in all_matrices():
            rows = range(len(matrix))
            fitting = [l for l in permutations(rows) if plain_listed(matrix, l) == plain_matrix(name)]
            self.assertEqual(listing_of(matrix), min(fitting))

    def test_a_listing_leads_to_the_matrix_of_the_name(self):
        self.assertEqual(listing_of(((2, -1), (-2, 2))), (1, 0))
        self.assertEqual(listing_of(((2, -2), (-1, 2))), (0, 1))
        self.assertEqual(listing_of(((2, -1, -1), (-1, 2, 0), (-1, 0, 2))), (1, 0, 2))
        for name, matrix in all_matrices():
            self.assertEqual(listed(matrix, listing_of(matrix)), matrix_of(name))


class Names(unittest.TestCase):
    def test_ranks_one_to_four(self):
        for rank in (1, 2, 3, 4):
            self.assertEqual(names(rank), NAMES[rank - 1])

    def test_ascending_and_each_once(self):
        for rank in (1, 2, 3, 4):
            self.assertEqual(list(names(rank)), sorted(set(names(rank))))

    def test_no_names_of_other_ranks(self):
        for rank in (-1, 0, 5, 9):
            self.assertEqual(names(rank), ())
