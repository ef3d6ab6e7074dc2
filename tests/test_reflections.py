"""Promise [9]."""

import unittest
from itertools import product

from tests.samples import (
    ALL_NAMES, SMALL, action, all_listed, all_matrices, first_words, grown_words, plain_matrix, plain_moved,
)
from weightwebs.reflections import are_alike, first_word, is_least, length, moved, reflected
from weightwebs.roots import as_weight, positive_roots

WEIGHTS = ((0, 0, 0, 0), (1, 1, 1, 1), (3, -2, 5, 0), (-7, 4, 0, 1), (10 ** 20 + 1, 3, -10 ** 21, 8))


class Reflected(unittest.TestCase):
    def test_by_hand(self):
        matrix = ((2, -2), (-1, 2))
        self.assertEqual(reflected(matrix, (1, 0), 0), (-1, 2))
        self.assertEqual(reflected(matrix, (1, 0), 1), (1, 0))
        self.assertEqual(reflected(matrix, (3, -2), 1), (1, 2))

    def test_twice_gives_the_weight_back(self):
        for name, matrix in all_matrices():
            for v, i in product(WEIGHTS, range(len(matrix))):
                v = v[:len(matrix)]
                told = reflected(matrix, v, i)
                self.assertEqual(told, tuple(v[j] - v[i] * matrix[i][j] for j in range(len(v))))
                self.assertEqual(reflected(matrix, told, i), v)


class Moved(unittest.TestCase):
    def test_from_the_last_entry_to_the_first(self):
        matrix = plain_matrix("A2")
        self.assertEqual(moved(matrix, (1, 0), (1, 0)), (0, -1))
        self.assertEqual(moved(matrix, (1, 0), (0, 1)), (-1, 1))
        self.assertEqual(moved(plain_matrix("G2"), (1, 2), (0, 1, 0)), (-8, 5))

    def test_the_empty_word_moves_nothing(self):
        for name in ALL_NAMES:
            matrix = plain_matrix(name)
            for v in WEIGHTS:
                self.assertEqual(moved(matrix, v[:len(matrix)], ()), v[:len(matrix)])

    def test_words_one_behind_another(self):
        for name in ALL_NAMES:
            matrix = plain_matrix(name)
            word = tuple((3 * k * k + k) % len(matrix) for k in range(9))
            for v in WEIGHTS:
                v = v[:len(matrix)]
                self.assertEqual(moved(matrix, v, word), plain_moved(matrix, v, word))
                self.assertEqual(moved(matrix, v, word), moved(matrix, moved(matrix, v, word[4:]), word[:4]))


class Alike(unittest.TestCase):
    def test_a_row_put_in_twice(self):
        for name, matrix in all_matrices():
            rank = len(matrix)
            word = tuple(k % rank for k in (0, 2, 1, 3, 2, 0))
            for at, i in product(range(len(word) + 1), range(rank)):
                self.assertIs(are_alike(matrix, word, word[:at] + (i, i) + word[at:]), True)
                self.assertIs(are_alike(matrix, word, word[:at] + (i,) + word[at:]), False)

    def test_two_rows_in_turns(self):
        turns = {0: 2, 1: 3, 2: 4, 3: 6}
        for name, matrix in all_matrices():
            for i, j in product(range(len(matrix)), repeat=2):
                if i != j:
                    most = turns[matrix[i][j] * matrix[j][i]]
                    for k in range(1, 13):
                        one, other = ((i, j) * 6)[:k], ((j, i) * 6)[:k]
                        self.assertIs(are_alike(matrix, one, other), k % most == 0)

    def test_against_all_weights(self):
        for name in ("A2", "B2", "G2", "A1+A1", "A3"):
            matrix = plain_matrix(name)
            words = [word for k in range(4) for word in product(range(len(matrix)), repeat=k)]
            for word, other in product(words, repeat=2):
                self.assertIs(are_alike(matrix, word, other), action(matrix, word) == action(matrix, other))


class Least(unittest.TestCase):
    def check_words(self, matrix, found, words):
        for word in words:
            first = found[action(matrix, word)]
            self.assertEqual(first_word(matrix, word), first)
            self.assertEqual(length(matrix, word), len(first))
            self.assertIs(is_least(matrix, word), len(word) == len(first))

    def test_all_short_words_of_small_matrices(self):
        for name in SMALL:
            for matrix in all_listed(name):
                found = first_words(matrix)
                longest = max(len(word) for word in found.values())
                most = min(longest + 2, 6)
                words = [word for k in range(most + 1) for word in product(range(len(matrix)), repeat=k)]
                self.check_words(matrix, found, words)

    def test_words_of_greater_matrices(self):
        for name in ("B3", "C3", "A4", "D4"):
            matrix = plain_matrix(name)
            found = grown_words(matrix)
            self.check_words(matrix, found, [word[::-1] for word in found.values()])
            self.check_words(matrix, found, [word + word[:3] for word in found.values()])

    def test_by_hand(self):
        matrix = plain_matrix("A2")
        self.assertEqual(first_word(matrix, (1, 0, 1)), (0, 1, 0))
        self.assertEqual(first_word(matrix, (1, 1)), ())
        self.assertEqual(first_word(matrix, (0, 1, 0, 1)), (1, 0))
        self.assertEqual(first_word(plain_matrix("A1+A1"), (1, 0)), (0, 1))
        self.assertIs(is_least(matrix, ()), True)
        self.assertIs(is_least(matrix, (0, 0)), False)
        self.assertEqual(length(plain_matrix("F4"), (0, 1, 2, 3) * 6), 24)
        self.assertEqual(length(plain_matrix("F4"), (0, 1, 2, 3) * 12), 0)

    def test_length_counts_the_roots_turned_down(self):
        for name in ALL_NAMES:
            matrix = plain_matrix(name)
            roots = positive_roots(matrix)
            down = {as_weight(matrix, tuple(-entry for entry in c)) for c in roots}
            for k in range(26):
                word = tuple((m * m + 3 * m + m // 3) % len(matrix) for m in range(k))
                many = sum(plain_moved(matrix, as_weight(matrix, c), word) in down for c in roots)
                self.assertEqual(length(matrix, word), many)
