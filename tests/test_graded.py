"""Promise [33]."""

import unittest
from itertools import product

from tests.plain_webs import (
    WEBS, listed_anew, listed_webs, plain_numbers, plain_roots, plain_signs, plain_size, plain_steps, plain_sum,
    plain_under, tops_up_to,
)
from tests.samples import ALL_NAMES, EXPONENTS, all_listed, plain_listed, plain_matrix
from weightwebs.errors import TooMany
from weightwebs.graded import graded_number, graded_partition
from weightwebs.numbers import partition_number
from weightwebs.roots import exponents, tops

# By how many positive roots: (0, 1) for one alone.
BY_HAND = (
    ("A1", (5,), (0, 0, 0, 0, 0, 1)),
    ("A2", (1, 0), (0, 1)),
    ("A2", (1, 1), (0, 1, 1)),
    ("A2", (2, 1), (0, 0, 1, 1)),
    ("A2", (2, 2), (0, 0, 1, 1, 1)),
    ("B2", (1, 1), (0, 1, 1)),
    ("B2", (1, 2), (0, 1, 1, 1)),
    ("B2", (2, 1), (0, 0, 1, 1)),
    ("G2", (1, 1), (0, 1, 1)),
    ("G2", (3, 2), (0, 1, 2, 2, 1, 1)),
    ("A1+A1", (2, 3), (0, 0, 0, 0, 0, 1)),
    ("A3", (1, 1, 1), (0, 1, 2, 1)),
    ("A3", (1, 0, 1), (0, 0, 1)),
    ("D4", (1, 1, 1, 1), (0, 1, 3, 3, 1)),
)


def plain_ways(roots, c):
    """The numbers of ways to write c as a sum of some roots, as {number of roots: ways}."""
    if not any(c):
        return {0: 1}
    if not roots:
        return {}
    found = dict(plain_ways(roots[1:], c))
    less = plain_sum(c, roots[0], -1)
    if min(less) >= 0:
        for k, n in plain_ways(roots, less).items():
            found[k + 1] = found.get(k + 1, 0) + n
    return found


def plain_polynomial(found):
    powers = [k for k, n in found.items() if n != 0]
    return tuple(found.get(k, 0) for k in range(max(powers) + 1)) if powers else ()


def plain_graded_partition(matrix, c):
    return plain_polynomial(plain_ways(plain_roots(matrix), c)) if min(c) >= 0 else ()


def plain_graded_number(matrix, t, v):
    u = (1,) * len(matrix)
    found = {}
    for w, sign in plain_signs(matrix, plain_sum(t, u)).items():
        steps = plain_steps(matrix, plain_sum(w, plain_sum(v, u), -1))
        if all(step >= 0 and step.denominator == 1 for step in steps):
            for k, n in plain_ways(plain_roots(matrix), tuple(int(step) for step in steps)).items():
                found[k] = found.get(k, 0) + sign * n
    return plain_polynomial(found)


class GradedPartition(unittest.TestCase):
    def test_by_hand(self):
        for name, c, wanted in BY_HAND:
            self.assertEqual(graded_partition(plain_matrix(name), c), wanted)

    def test_zeros(self):
        for name in ALL_NAMES:
            matrix = plain_matrix(name)
            self.assertEqual(graded_partition(matrix, (0,) * len(matrix)), (1,))

    def test_an_entry_below_zero(self):
        for name in ALL_NAMES:
            rank = len(plain_matrix(name))
            for i in range(rank):
                for entry in (-1, -7, -10 ** 30):
                    for others in (0, 3, 12):
                        c = tuple(entry if j == i else others for j in range(rank))
                        self.assertEqual(graded_partition(plain_matrix(name), c), ())

    def test_all_small_ones(self):
        for name in ALL_NAMES:
            matrix = plain_matrix(name)
            rank = len(matrix)
            for c in product(range(-1, (12, 6, 3, 2)[rank - 1]), repeat=rank):
                self.assertEqual(graded_partition(matrix, c), plain_graded_partition(matrix, c))

    def test_rows_listed_anew(self):
        for name in ("B2", "G2", "C3", "A1+B2", "D4", "F4"):
            matrix = plain_matrix(name)
            listing = tuple(range(len(matrix)))[1:] + (0,)
            c = (1, 2, 3, 1)[:len(matrix)]
            found = graded_partition(plain_listed(matrix, listing), listed_anew(c, listing))
            self.assertEqual(found, plain_graded_partition(matrix, c))

    def test_they_add_up(self):
        for name in ALL_NAMES:
            matrix = plain_matrix(name)
            rank = len(matrix)
            for c in ((12,) * rank, (12, 0, 12, 5)[:rank], (3, 11, 7, 12)[:rank], (6, 12, 8, 4)[:rank]):
                found = graded_partition(matrix, c)
                self.assertEqual(sum(found), partition_number(matrix, c))
                # As many roots as the sum of the entries make just one way: the simple ones alone.
                self.assertEqual(len(found), sum(c) + 1)
                self.assertEqual(found[-1], 1)

    def test_entries_above_12(self):
        for name in ALL_NAMES:
            rank = len(plain_matrix(name))
            for i in range(rank):
                for entry, others in ((13, 0), (13, 12), (10 ** 30, 1), (13, -1)):
                    with self.assertRaises(TooMany) as caught:
                        graded_partition(plain_matrix(name), tuple(entry if j == i else others for j in range(rank)))
                    self.assertEqual(caught.exception.limit, 12)


class GradedNumber(unittest.TestCase):
    def test_by_hand(self):
        a2, a3, b2, g2 = [plain_matrix(name) for name in ("A2", "A3", "B2", "G2")]
        self.assertEqual(graded_number(plain_matrix("A1"), (6,), (0,)), (0, 0, 0, 1))
        self.assertEqual(graded_number(plain_matrix("A1"), (6,), (4,)), (0, 1))
        self.assertEqual(graded_number(a2, (1, 1), (0, 0)), (0, 1, 1))
        self.assertEqual(graded_number(a2, (2, 2), (0, 0)), (0, 0, 1, 1, 1))
        self.assertEqual(graded_number(a2, (2, 2), (1, 1)), (0, 1, 1))
        self.assertEqual(graded_number(a3, (0, 2, 0), (0, 0, 0)), (0, 0, 1, 0, 1))
        self.assertEqual(graded_number(b2, (1, 0), (0, 0)), (0, 0, 1))
        self.assertEqual(graded_number(b2, (0, 2), (0, 0)), (0, 1, 0, 1))
        self.assertEqual(graded_number(g2, (1, 0), (0, 0)), (0, 0, 0, 1))
        self.assertEqual(graded_number(g2, (0, 1), (1, 0)), (0, 0, 1))

    def test_the_top_root_tells_the_exponents(self):
        for name, told in EXPONENTS.items():
            for matrix in all_listed(name):
                c = tops(matrix)[0]
                t = tuple(sum(c[i] * matrix[i][j] for i in range(len(c))) for j in range(len(c)))
                found = graded_number(matrix, t, (0,) * len(c))
                self.assertEqual(found, tuple(told.count(e) for e in range(max(told) + 1)))
                self.assertEqual(exponents(matrix), told)

    def test_t_itself(self):
        for name in ALL_NAMES:
            matrix = plain_matrix(name)
            for t in tops_up_to(matrix, 40):
                self.assertEqual(graded_number(matrix, t, t), (1,))

    def test_every_weight_under_it(self):
        for matrix, t in listed_webs(600):
            numbers = dict(plain_numbers(matrix, t))
            for v in plain_under(matrix, t):
                found = graded_number(matrix, t, v)
                self.assertGreaterEqual(min(found), 0)
                self.assertEqual(sum(found), numbers[v])
                steps = plain_steps(matrix, plain_sum(t, v, -1))
                self.assertEqual(len(found), sum(steps) + 1)
                self.assertEqual(found[-1], 1)

    def test_by_the_words_of_the_promise(self):
        for matrix, t in listed_webs(130):
            for v in plain_under(matrix, t):
                if sum(plain_steps(matrix, plain_sum(t, v, -1))) <= 12:
                    self.assertEqual(graded_number(matrix, t, v), plain_graded_number(matrix, t, v))

    def test_steps_above_12(self):
        a1 = plain_matrix("A1")
        self.assertEqual(graded_number(a1, (26,), (0,)), (0,) * 13 + (1,))
        self.assertEqual(graded_number(a1, (599,), (1,)), (0,) * 299 + (1,))
        self.assertEqual(graded_number(plain_matrix("A2"), (20, 0), (0, 1)), (0,) * 19 + (1,))

    def test_just_600_points(self):
        for name, t in (("A1", (599,)), ("A1+A1", (24, 23)), ("A1+A1+A1+A1", (5, 4, 4, 3)), ("A2+A2", (0, 3, 2, 4))):
            matrix = plain_matrix(name)
            self.assertEqual(plain_size(matrix, t), 600)
            numbers = dict(plain_numbers(matrix, t))
            for v in plain_under(matrix, t):
                self.assertEqual(sum(graded_number(matrix, t, v)), numbers[v])

    def test_more_points(self):
        for name, t in (
            ("A1", (600,)), ("A1+A1", (24, 24)), ("F4", (0, 1, 0, 0)), ("D4", (1, 1, 1, 1)), ("A2", (34, 0)),
            ("B3", (0, 10 ** 30, 0)),
        ):
            matrix = plain_matrix(name)
            self.assertGreater(plain_size(matrix, t), 600)
            with self.assertRaises(TooMany) as caught:
                graded_number(matrix, t, t)
            self.assertEqual(caught.exception.limit, 600)

    def test_samples_have_every_simple_name(self):
        self.assertLessEqual(set(EXPONENTS), {name for name, _ in WEBS})
