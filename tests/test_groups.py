"""Promise [10]."""

import unittest
from itertools import product

from tests.samples import (
    ALL_NAMES, EXPONENTS, SMALL, action, all_listed, all_matrices, first_words, grown_words, plain_matrix,
    plain_moved,
)
from weightwebs.groups import group_size, length_row, longest_word, orbit, topmost
from weightwebs.reflections import is_least
from weightwebs.roots import positive_roots

SIZES = {
    "A1": 2, "A2": 6, "A3": 24, "A4": 120, "B2": 8, "B3": 48, "B4": 384, "C3": 48, "C4": 384, "D4": 192,
    "F4": 1152, "G2": 12,
}

WEIGHTS = ((0, 0, 0, 0), (1, 1, 1, 1), (1, 0, 0, 0), (3, -2, 5, 0), (-1, -1, 0, -2), (10 ** 20, 3, -10 ** 21, 0))


class Orbit(unittest.TestCase):
    def test_by_hand(self):
        self.assertEqual(orbit(plain_matrix("A1"), (3,)), ((-3,), (3,)))
        self.assertEqual(orbit(plain_matrix("A2"), (1, 0)), ((-1, 1), (0, -1), (1, 0)))
        self.assertEqual(orbit(plain_matrix("A2"), (0, -1)), ((-1, 1), (0, -1), (1, 0)))
        self.assertEqual(orbit(plain_matrix("B2"), (0, 1)), ((-1, 1), (0, -1), (0, 1), (1, -1)))

    def test_zeros(self):
        for name in ALL_NAMES:
            zero = (0,) * len(plain_matrix(name))
            self.assertEqual(orbit(plain_matrix(name), zero), (zero,))

    def test_against_all_words(self):
        for name in SMALL:
            for matrix in all_listed(name):
                words = list(first_words(matrix).values())
                for v in WEIGHTS:
                    v = v[:len(matrix)]
                    self.assertEqual(orbit(matrix, v), tuple(sorted({plain_moved(matrix, v, w) for w in words})))

    def test_as_many_as_the_group_if_no_entry_is_zero(self):
        for name in ALL_NAMES:
            matrix = plain_matrix(name)
            v = (2, 10 ** 15, 1, 3)[:len(matrix)]
            told = orbit(matrix, v)
            self.assertEqual(len(told), group_size(matrix))
            self.assertEqual(list(told), sorted(set(told)))
            self.assertEqual(sum(min(w) >= 0 for w in told), 1)


class Topmost(unittest.TestCase):
    def test_by_hand(self):
        self.assertEqual(topmost(plain_matrix("A1"), (-4,)), ((4,), (0,)))
        self.assertEqual(topmost(plain_matrix("A2"), (0, -1)), ((1, 0), (1, 0)))
        self.assertEqual(topmost(plain_matrix("A2"), (-1, -1)), ((1, 1), (0, 1, 0)))
        self.assertEqual(topmost(plain_matrix("A1+A1"), (-1, -1)), ((1, 1), (0, 1)))

    def test_a_topmost_weight_stays(self):
        for name in ALL_NAMES:
            for v in WEIGHTS[:3]:
                v = v[:len(plain_matrix(name))]
                self.assertEqual(topmost(plain_matrix(name), v), (v, ()))

    def check_weight(self, matrix, v, words):
        """Of the words that move the topmost weight to v, the first of least length is told."""
        tops = {plain_moved(matrix, v, w) for w in words if min(plain_moved(matrix, v, w)) >= 0}
        self.assertEqual(len(tops), 1)
        top = tops.pop()
        fitting = [w for w in words if plain_moved(matrix, top, w) == v]
        self.assertEqual(topmost(matrix, v), (top, min(fitting, key=lambda w: (len(w), w))))

    def test_against_all_words(self):
        for name in SMALL:
            for matrix in all_listed(name):
                words = list(first_words(matrix).values())
                for start in WEIGHTS:
                    for v in orbit(matrix, start[:len(matrix)]):
                        self.check_weight(matrix, v, words)

    def test_greater_matrices(self):
        for name in ("B3", "C3", "D4", "A1+B3"):
            matrix = plain_matrix(name)
            words = list(grown_words(matrix).values())
            for v in WEIGHTS:
                self.check_weight(matrix, v[:len(matrix)], words)


class GroupSize(unittest.TestCase):
    def test_every_name_in_every_listing(self):
        for name, matrix in all_matrices():
            size = 1
            for part in name.split("+"):
                size *= SIZES[part]
            self.assertEqual(group_size(matrix), size)

    def test_counts_the_words_not_alike(self):
        for name in ALL_NAMES:
            matrix = plain_matrix(name)
            self.assertEqual(group_size(matrix), len(grown_words(matrix)))


class LongestWord(unittest.TestCase):
    def test_by_hand(self):
        self.assertEqual(longest_word(plain_matrix("A1")), (0,))
        self.assertEqual(longest_word(plain_matrix("A2")), (0, 1, 0))
        self.assertEqual(longest_word(plain_matrix("G2")), (0, 1, 0, 1, 0, 1))
        self.assertEqual(longest_word(plain_matrix("A1+A1+A1")), (0, 1, 2))
        self.assertEqual(longest_word(plain_matrix("A3")), (0, 1, 0, 2, 1, 0))

    def test_against_a_search(self):
        for name in ALL_NAMES:
            matrix = plain_matrix(name)
            words = list(grown_words(matrix).values())
            most = max(len(word) for word in words)
            self.assertEqual([longest_word(matrix)], [word for word in words if len(word) == most])

    def test_every_listing(self):
        for name, matrix in all_matrices():
            word = longest_word(matrix)
            self.assertEqual(len(word), len(positive_roots(matrix)))
            self.assertTrue(is_least(matrix, word))
        for name in SMALL:
            for matrix in all_listed(name):
                words = list(first_words(matrix).values())
                self.assertEqual(longest_word(matrix), max(words, key=len))


class LengthRow(unittest.TestCase):
    def test_by_hand(self):
        self.assertEqual(length_row(plain_matrix("A1")), (1, 1))
        self.assertEqual(length_row(plain_matrix("A2")), (1, 2, 2, 1))
        self.assertEqual(length_row(plain_matrix("A1+A1")), (1, 2, 1))
        self.assertEqual(length_row(plain_matrix("G2")), (1, 2, 2, 2, 2, 2, 1))

    def test_against_a_search(self):
        for name in ALL_NAMES:
            matrix = plain_matrix(name)
            many = [len(word) for word in grown_words(matrix).values()]
            self.assertEqual(length_row(matrix), tuple(many.count(k) for k in range(max(many) + 1)))

    def test_product_of_the_polynomials(self):
        for name, matrix in all_matrices():
            wanted = {0: 1}
            for e in [e for part in name.split("+") for e in EXPONENTS[part]]:
                longer = {}
                for k, step in product(wanted, range(e + 1)):
                    longer[k + step] = longer.get(k + step, 0) + wanted[k]
                wanted = longer
            self.assertEqual(length_row(matrix), tuple(wanted[k] for k in range(len(wanted))))

    def test_least_words_act_each_in_its_own_way(self):
        matrix = plain_matrix("B3")
        words = list(grown_words(matrix).values())
        self.assertEqual(len({action(matrix, word) for word in words}), 48)
