"""Promises [1], [2] and [3], and of [5] `listed` and `pieces`."""

import copy
import unittest
from itertools import combinations, product

from tests.samples import ALL_NAMES, SIMPLES, all_listed, all_matrices, plain_listed, plain_matrix
from weightwebs.errors import NotMatrix
from weightwebs.matrices import check_matrix, listed, matrix_breach, pieces

A2 = SIMPLES["A2"]


def determinant(rows):
    if not rows:
        return 1
    return sum(
        (-1) ** j * rows[0][j] * determinant([row[:j] + row[j + 1:] for row in rows[1:]])
        for j in range(len(rows))
    )


def is_positive(matrix):
    """Whether all determinants along the middle are above 0: a textbook's sign of a finite system."""
    rows = range(len(matrix))
    return all(
        determinant(plain_listed(matrix, lot)) > 0 for k in rows for lot in combinations(rows, k + 1)
    )


def plain_breach(matrix):
    """The breach of a value that has the form."""
    rows = range(len(matrix))
    places = {
        "middle": [i for i in rows if matrix[i][i] != 2],
        "sign": [i for i in rows if any(matrix[i][j] > 0 for j in rows if j != i)],
        "zero": [i for i in rows if any((matrix[i][j] == 0) != (matrix[j][i] == 0) for j in rows)],
    }
    for rule, found in places.items():
        if found:
            return (rule, found[0])
    return None if is_positive(matrix) else ("finite", -1)


class Form(unittest.TestCase):
    def test_wrong_values_of_many_kinds(self):
        wrong = [
            None, True, False, 0, 2, -1, 2.0, "", "A2", "((2,),)", b"22", [], {}, set(), object(), int,
            (), ((),), ((), ()), (2,), (2, 2), ("2",), ("2a", "a2"), (None,), ((None,),), (((2,),),),
            [[2]], [(2,)], ([2],), {0: (2,)}, ((2,), (2,)), ((2, 0),),
            ((True,),), ((False,),), ((2, False), (False, 2)), ((2, 0), (True, 2)), ((2, -1), (-1, True)),
            ((2.0,),), (("2",),), ((2, -1.0), (-1, 2)), ((2, None), (None, 2)), ((2j,),),
            ((2, -1), [-1, 2]), [(2, -1), (-1, 2)], [[2, -1], [-1, 2]], ((2, -1), None), ((2, -1), "ab"),
            ((2, -1), (-1,)), ((2, -1), (-1, 2, 0)), ((2,), (-1, 2)), ((2, -1, 0), (-1, 2, 0)),
            ((2, -1), (-1, 2), (0, 0)), ((2, 0, 0), (0, 2, 0), (0, 0)), ((2, -1), ()),
            tuple(tuple(2 if i == j else 0 for j in range(5)) for i in range(5)),
            tuple(tuple(2 if i == j else 0 for j in range(4)) for i in range(5)),
            tuple(tuple(2 if i == j else 0 for j in range(5)) for i in range(4)),
        ]
        for value in wrong:
            with self.subTest(value=value):
                self.assertEqual(matrix_breach(value), ("form", -1))

    def test_form_comes_ahead_of_all_else(self):
        self.assertEqual(matrix_breach(((1, 5), (0, True))), ("form", -1))


class Places(unittest.TestCase):
    def test_middle(self):
        self.assertEqual(matrix_breach(((1,),)), ("middle", 0))
        self.assertEqual(matrix_breach(((0,),)), ("middle", 0))
        self.assertEqual(matrix_breach(((-2,),)), ("middle", 0))
        self.assertEqual(matrix_breach(((2, -1), (-1, 3))), ("middle", 1))
        self.assertEqual(matrix_breach(((2, 0, 0), (0, 1, 0), (0, 0, 1))), ("middle", 1))
        self.assertEqual(matrix_breach(((2, 0, 0, 0), (0, 2, 0, 0), (0, 0, 2, 0), (0, 0, 0, 4))), ("middle", 3))

    def test_sign(self):
        self.assertEqual(matrix_breach(((2, 1), (1, 2))), ("sign", 0))
        self.assertEqual(matrix_breach(((2, -1), (1, 2))), ("sign", 1))
        self.assertEqual(matrix_breach(((2, 0, 0), (0, 2, -1), (0, 7, 2))), ("sign", 2))
        self.assertEqual(matrix_breach(((2, 0, 0), (1, 2, -1), (1, -1, 2))), ("sign", 1))

    def test_zero(self):
        self.assertEqual(matrix_breach(((2, -1), (0, 2))), ("zero", 0))
        self.assertEqual(matrix_breach(((2, 0), (-1, 2))), ("zero", 0))
        self.assertEqual(matrix_breach(((2, -1, 0), (-1, 2, 0), (0, -1, 2))), ("zero", 1))
        self.assertEqual(matrix_breach(((2, 0, 0, 0), (0, 2, 0, 0), (0, 0, 2, -1), (0, 0, 0, 2))), ("zero", 2))

    def test_the_first_broken_rule_is_told(self):
        self.assertEqual(matrix_breach(((2, 1), (0, 3))), ("middle", 1))
        self.assertEqual(matrix_breach(((2, 0), (1, 2))), ("sign", 1))
        self.assertEqual(matrix_breach(((2, -4, 0), (-1, 2, -1), (0, 0, 2))), ("zero", 1))
        self.assertEqual(matrix_breach(((2, -9, -9), (0, 2, 1), (0, 0, 1))), ("middle", 2))
        self.assertEqual(matrix_breach(((2, -9, -9), (0, 2, -1), (0, 1, 2))), ("sign", 2))

    def test_all_of_rank_two(self):
        for a, b, c, d in product(range(-5, 4), repeat=4):
            matrix = ((a, b), (c, d))
            self.assertEqual(matrix_breach(matrix), plain_breach(matrix), matrix)

    def test_many_of_rank_three(self):
        for a, b, c, d, e, f in product((-3, -2, -1, 0), repeat=6):
            matrix = ((2, a, b), (c, 2, d), (e, f, 2))
            self.assertEqual(matrix_breach(matrix), plain_breach(matrix), matrix)

    def test_wrong_middles_and_signs_of_rank_three(self):
        for a, b, c, d, e in product((1, 2), (1, 2), (1, 2), (-1, 0, 1), (-1, 0, 1)):
            matrix = ((a, d, 0), (e, b, d), (0, e, c))
            self.assertEqual(matrix_breach(matrix), plain_breach(matrix), matrix)


class Finite(unittest.TestCase):
    def test_many_of_rank_four(self):
        bonds = ((0, 0), (-1, -1), (-1, -2), (-2, -1), (-3, -1))
        places = list(combinations(range(4), 2))
        for chosen in product(bonds, repeat=6):
            rows = [[2] * 4 for _ in range(4)]
            for (i, j), (there, back) in zip(places, chosen):
                rows[i][j], rows[j][i] = there, back
            matrix = tuple(tuple(row) for row in rows)
            wanted = None if is_positive(matrix) else ("finite", -1)
            self.assertEqual(matrix_breach(matrix), wanted, matrix)

    def test_rings_and_others_in_any_listing(self):
        wrong = [
            ((2, -2), (-2, 2)),
            ((2, -1), (-4, 2)),
            ((2, -1, -1), (-1, 2, -1), (-1, -1, 2)),
            ((2, -1, 0), (-3, 2, -1), (0, -1, 2)),
            ((2, -2, 0), (-1, 2, -2), (0, -1, 2)),
            ((2, -1, 0, -1), (-1, 2, -1, 0), (0, -1, 2, -1), (-1, 0, -1, 2)),
            ((2, -1, -1, 0), (-1, 2, -1, 0), (-1, -1, 2, 0), (0, 0, 0, 2)),
            ((2, -1, 0, 0), (-1, 2, -1, -1), (0, -1, 2, 0), (0, -2, 0, 2)),
            ((2, -2, 0, 0), (-1, 2, -1, 0), (0, -1, 2, -1), (0, 0, -2, 2)),
            ((2, -1, 0, 0), (-1, 2, -3, 0), (0, -1, 2, -1), (0, 0, -1, 2)),
            ((2, -2, 0, 0), (-2, 2, 0, 0), (0, 0, 2, -1), (0, 0, -1, 2)),
        ]
        for matrix in wrong:
            for listing in product(range(len(matrix)), repeat=len(matrix)):
                if len(set(listing)) == len(matrix):
                    self.assertEqual(matrix_breach(plain_listed(matrix, listing)), ("finite", -1))

    def test_great_entries(self):
        self.assertEqual(matrix_breach(((2, -10 ** 30), (-1, 2))), ("finite", -1))
        self.assertEqual(matrix_breach(((10 ** 30,),)), ("middle", 0))

    def test_every_name_in_any_listing_is_valid(self):
        for name, matrix in all_matrices():
            with self.subTest(name=name):
                self.assertIsNone(matrix_breach(matrix))


class Check(unittest.TestCase):
    def test_a_valid_matrix_comes_back(self):
        for name in ALL_NAMES:
            matrix = plain_matrix(name)
            self.assertIs(check_matrix(matrix), matrix)

    def test_any_other_value_raises(self):
        wrong = {
            None: ("form", -1), (): ("form", -1), "A2": ("form", -1), ((True,),): ("form", -1),
            ((2, -1), (-1, 0)): ("middle", 1), ((2, 1), (-1, 2)): ("sign", 0),
            ((2, -1), (0, 2)): ("zero", 0), ((2, -2), (-2, 2)): ("finite", -1),
        }
        for value, told in wrong.items():
            with self.subTest(value=value):
                with self.assertRaises(NotMatrix) as caught:
                    check_matrix(value)
                self.assertEqual((caught.exception.rule, caught.exception.place), told)

    def test_arguments_are_not_changed(self):
        for value in ([[2, -1], [-1, 2]], ([2, -1], [-1, 2]), {0: [2]}, [], [(2, 1), [0]]):
            kept = copy.deepcopy(value)
            matrix_breach(value)
            with self.assertRaises(NotMatrix):
                check_matrix(value)
            self.assertEqual(value, kept)


class Listed(unittest.TestCase):
    def test_entry_by_entry(self):
        matrix = plain_matrix("B3")
        self.assertEqual(listed(matrix, (2, 0, 1)), ((2, 0, -1), (0, 2, -1), (-2, -1, 2)))
        self.assertEqual(listed(matrix, (0, 1, 2)), matrix)
        self.assertEqual(listed(((2, -1), (-3, 2)), (1, 0)), ((2, -3), (-1, 2)))

    def test_there_and_back(self):
        for name, matrix in all_matrices():
            for listing in ((0, 1, 2, 3), (3, 1, 0, 2), (1, 2, 3, 0), (2, 3, 1, 0)):
                listing = tuple(k for k in listing if k < len(matrix))
                back = tuple(listing.index(k) for k in range(len(matrix)))
                told = listed(matrix, listing)
                for i, j in product(range(len(matrix)), repeat=2):
                    self.assertEqual(told[i][j], matrix[listing[i]][listing[j]])
                self.assertEqual(listed(told, back), matrix)


class Pieces(unittest.TestCase):
    def test_one_piece(self):
        for name in SIMPLES:
            for matrix in all_listed(name):
                self.assertEqual(pieces(matrix), (tuple(range(len(matrix))),))

    def test_several_pieces(self):
        self.assertEqual(pieces(plain_matrix("A1+A1+A2")), ((0,), (1,), (2, 3)))
        self.assertEqual(pieces(plain_matrix("A1+A1+A1+A1")), ((0,), (1,), (2,), (3,)))
        matrix = plain_matrix("A2+B2")
        self.assertEqual(pieces(matrix), ((0, 1), (2, 3)))
        self.assertEqual(pieces(plain_listed(matrix, (0, 2, 1, 3))), ((0, 2), (1, 3)))
        self.assertEqual(pieces(plain_listed(matrix, (3, 0, 1, 2))), ((0, 3), (1, 2)))
        matrix = plain_matrix("A1+B3")
        self.assertEqual(pieces(plain_listed(matrix, (3, 0, 1, 2))), ((0, 2, 3), (1,)))

    def test_rows_hang_together_just_within_a_piece(self):
        for name, matrix in all_matrices():
            told = pieces(matrix)
            self.assertEqual(sorted(i for piece in told for i in piece), list(range(len(matrix))))
            self.assertEqual(list(told), sorted(tuple(sorted(piece)) for piece in told))
            self.assertEqual(len(told), len(name.split("+")))
            where = {i: piece for piece in told for i in piece}
            for i, j in product(where, repeat=2):
                if matrix[i][j] != 0:
                    self.assertEqual(where[i], where[j])
