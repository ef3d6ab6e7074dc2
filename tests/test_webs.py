"""Promise [22]."""

import unittest

from tests.plain_paths import plain_crystal, plain_numbered, plain_paths, words_crystal
from tests.plain_webs import WEBS, listed_webs, plain_numbers, plain_size, plain_sum, plain_web, tops_up_to
from tests.samples import ALL_NAMES, all_listed, plain_matrix
from tests.test_crystals import EIGHT, FIVE, LINE, ONE, SIX, THREE, ZERO
from tests.test_paths import longer_told, path
from weightwebs.crystals import falls, rises
from weightwebs.cuts import all_numbers
from weightwebs.errors import TooMany
from weightwebs.paths import lowered, straight
from weightwebs.webs import crystal, crystal_of_path, path_of

# Webs of just 400 points.
FULL = (
    ("A1", (399,)), ("A1+A1", (399, 0)), ("A1+A1", (19, 19)), ("A1+A1+A1", (3, 9, 9)), ("A1+A2", (4, 1, 7)),
    ("A1+B2", (4, 3, 1)), ("A1+A3", (7, 0, 3, 0)), ("A2+B2", (0, 3, 2, 1)), ("B2+B2", (0, 2, 2, 1)),
    ("A1+A1+B2", (1, 4, 2, 1)),
)

# Webs of more than 400 points, 401 where there is one.
OVER = (
    ("A1", (400,)), ("A1+A1", (0, 400)), ("A1+A1+A1+A1", (0, 0, 400, 0)), ("A2", (27, 0)), ("A2", (0, 27)),
    ("B2", (0, 12)), ("G2", (0, 4)), ("B3", (1, 1, 1)), ("F4", (0, 1, 0, 0)), ("D4", (1, 1, 1, 0)),
    ("A1", (10 ** 30,)), ("C4", (0, 10 ** 30, 10 ** 40, 1)),
)

# The webs of these weights are lines of letters: each letter as (weight, arrows) in sequence.
LETTERS = {
    "A2": (((1, 0), (-1, 1), (0, -1)), ((1, -1), (-1, 2), (-1, -1))),
    "A3": (((1, 0, 0), (-1, 1, 0), (0, -1, 1), (0, 0, -1)),
           ((1, -1, -1), (-1, 2, -1), (-1, -1, 3), (-1, -1, -1))),
    "A4": (((1, 0, 0, 0), (-1, 1, 0, 0), (0, -1, 1, 0), (0, 0, -1, 1), (0, 0, 0, -1)),
           ((1, -1, -1, -1), (-1, 2, -1, -1), (-1, -1, 3, -1), (-1, -1, -1, 4), (-1, -1, -1, -1))),
    "B2": (((0, 1), (1, -1), (-1, 1), (0, -1)), ((-1, 1), (2, -1), (-1, 3), (-1, -1))),
    "C3": (((1, 0, 0), (-1, 1, 0), (0, -1, 1), (0, 1, -1), (1, -1, 0), (-1, 0, 0)),
           ((1, -1, -1), (-1, 2, -1), (-1, -1, 3), (-1, 4, -1), (5, -1, -1), (-1, -1, -1))),
    "C4": (((1, 0, 0, 0), (-1, 1, 0, 0), (0, -1, 1, 0), (0, 0, -1, 1), (0, 0, 1, -1), (0, 1, -1, 0),
            (1, -1, 0, 0), (-1, 0, 0, 0)),
           ((1, -1, -1, -1), (-1, 2, -1, -1), (-1, -1, 3, -1), (-1, -1, -1, 4), (-1, -1, 5, -1), (-1, 6, -1, -1),
            (7, -1, -1, -1), (-1, -1, -1, -1))),
    "D4": (((1, 0, 0, 0), (-1, 1, 0, 0), (0, -1, 1, 1), (0, 0, -1, 1), (0, 0, 1, -1), (0, 1, -1, -1),
            (1, -1, 0, 0), (-1, 0, 0, 0)),
           ((1, -1, -1, -1), (-1, 2, -1, -1), (-1, -1, 3, 4), (-1, -1, -1, 5), (-1, -1, 5, -1), (-1, 6, -1, -1),
            (7, -1, -1, -1), (-1, -1, -1, -1))),
    "G2": (((1, 0), (-1, 1), (2, -1), (0, 0), (-2, 1), (1, -1), (-1, 0)),
           ((1, -1), (-1, 2), (3, -1), (4, -1), (-1, 5), (6, -1), (-1, -1))),
}

# Words of letters to which no arrow leads.
FIRSTS = {
    "A2": ((0, 0, 0), (0, 1), (0, 1, 0), (0, 0, 0, 1), (0, 1, 0, 1)),
    "A3": ((0, 0), (0, 1), (0, 1, 2), (0, 1, 0, 1, 2), (0, 0, 0, 1)),
    "A4": ((0, 1), (0, 1, 2), (0, 1, 2, 3), (0, 0, 1), (0, 0, 1, 2, 3)),
    "B2": ((0, 0), (0, 1), (0, 0, 0), (0, 0, 1), (0, 1, 0, 1)),
    "C3": ((0, 0), (0, 1), (0, 1, 2), (0, 0, 1)),
    "C4": ((0, 1), (0, 1, 2), (0, 0)),
    "D4": ((0, 1), (0, 0), (0, 1, 2), (0, 1, 2, 3), (0, 1, 2, 4)),
    "G2": ((0,), (0, 0), (0, 1), (0, 0, 0), (0, 0, 1)),
}


class Crystal(unittest.TestCase):
    def test_the_example(self):
        self.assertEqual(crystal(plain_matrix("A1"), (1,)), (((1,), (-1,)), ((1,), (-1,))))

    def test_by_hand(self):
        for name, wanted in (("A1", ONE), ("A1", ZERO), ("A1", LINE), ("A2", THREE), ("A2", EIGHT), ("B2", FIVE),
                             ("A1+A1", SIX)):
            self.assertEqual(crystal(plain_matrix(name), wanted[0][0]), wanted)
        for name, wanted in LETTERS.items():
            self.assertEqual(crystal(plain_matrix(name), wanted[0][0]), wanted)

    def test_zero_weight(self):
        for name in ALL_NAMES:
            rank = len(plain_matrix(name))
            self.assertEqual(crystal(plain_matrix(name), (0,) * rank), (((0,) * rank,), ((-1,) * rank,)))

    def test_webs_of_words(self):
        # The rule of signs leads to the same crystals without any path.
        for name, firsts in FIRSTS.items():
            matrix = plain_matrix(name)
            for first in firsts:
                wanted = words_crystal(LETTERS[name], len(matrix), first)
                self.assertEqual(crystal(matrix, wanted[0][0]), wanted)

    def test_against_plain_paths(self):
        for matrix, t in listed_webs(110):
            self.assertEqual(crystal(matrix, t), plain_crystal(matrix, t))

    def test_every_listing(self):
        for name in ALL_NAMES:
            t = max(tops_up_to(plain_matrix(name), 30))
            many = plain_size(plain_matrix(name), t)
            for matrix in all_listed(name):
                for top in (t, t[::-1]):
                    if plain_size(matrix, top) == many:
                        self.check_form(matrix, top)

    def test_form_of_greater_webs(self):
        for matrix, t in listed_webs(400):
            self.check_form(matrix, t)

    def check_form(self, matrix, t):
        weights, arrows = crystal(matrix, t)
        self.assertEqual(weights[0], t)
        self.assertEqual(plain_numbered(weights, arrows), (weights, arrows))
        self.assertEqual(len(weights), plain_size(matrix, t))
        for p, row in enumerate(arrows):
            for i, q in enumerate(row):
                if q >= 0:
                    self.assertEqual(weights[q], plain_sum(weights[p], matrix[i], -1))

    def test_points_of_each_weight(self):
        for matrix, t in listed_webs(130):
            weights = crystal(matrix, t)[0]
            for v, n in plain_web(matrix, t).items():
                self.assertEqual(weights.count(v), n)
        for matrix, t in listed_webs(400):
            weights = crystal(matrix, t)[0]
            self.assertEqual(tuple((v, weights.count(v)) for v in sorted(set(weights))), all_numbers(matrix, t))

    def test_strings(self):
        for matrix, t in listed_webs(60):
            told = crystal(matrix, t)
            for p, weight in enumerate(told[0]):
                for i, entry in enumerate(weight):
                    self.assertEqual(falls(told, p, i) - rises(told, p, i), entry)


class CrystalOfPath(unittest.TestCase):
    def test_other_paths(self):
        a1, a2, b2, g2 = [plain_matrix(name) for name in ("A1", "A2", "B2", "G2")]
        for matrix, told in (
            (a1, path((0,), (3,), (1,))),
            (a1, path((0,), (1,), (2,), (1,), (4,))),
            (a1, path((0,), (1,), (0,))),
            (a1, path((0,), (2,), (0,), (2,))),
            (a2, path((0, 0), (1, 0), (1, 1))),
            (a2, path((0, 0), (0, 1), (1, 1))),
            (a2, path((0, 0), (2, 0), (0, 3), (1, 1))),
            (a2, path((0, 0), (3, 3), (0, 0))),
            (a2, path((0, 0), (0, 4), (3, 0), (2, 2))),
            (b2, path((0, 0), (1, 0), (1, 1))),
            (b2, path((0, 0), (0, 1), (1, 1))),
            (b2, path((0, 0), (0, 2), (1, 0), (0, 2))),
            (b2, path((0, 0), (5, 1), (0, 1), (1, 2))),
            (g2, path((0, 0), (1, 0), (0, 1))),
            (g2, path((0, 0), (0, 1), (1, 1))),
            (g2, path((0, 0), (3, 5), (2, 0))),
            (plain_matrix("A1+A1"), path((0, 0), (2, 0), (2, 3), (1, 2))),
        ):
            t = tuple(above for above, _ in told[-1])
            self.assertEqual(crystal_of_path(matrix, told), crystal(matrix, t))
            self.assertEqual(crystal_of_path(matrix, longer_told(told)), crystal(matrix, t))

    def test_one_entry_after_the_other(self):
        for matrix, t in listed_webs(130):
            rank = len(matrix)
            for sequence in (range(rank), reversed(range(rank))):
                points = [(0,) * rank]
                for i in sequence:
                    points.append(tuple(t[j] if j == i else entry for j, entry in enumerate(points[-1])))
                self.assertEqual(crystal_of_path(matrix, path(*points)), crystal(matrix, t))

    def test_by_way_of_a_greater_weight(self):
        for matrix, t in listed_webs(60):
            told = path((0,) * len(t), (2,) * len(t), tuple(3 * entry + 1 for entry in t), t)
            self.assertEqual(crystal_of_path(matrix, told), crystal(matrix, t))

    def test_straight(self):
        for matrix, t in listed_webs(60):
            self.assertEqual(crystal_of_path(matrix, straight(t)), crystal(matrix, t))


class PathOf(unittest.TestCase):
    def test_by_hand(self):
        matrix = plain_matrix("A1")
        self.assertEqual(path_of(matrix, (2,), 0), path((0,), (2,)))
        self.assertEqual(path_of(matrix, (2,), 1), path((0,), (-1,), (0,)))
        self.assertEqual(path_of(matrix, (2,), 2), path((0,), (-2,)))
        self.assertEqual(path_of(matrix, (0,), 0), path((0,)))

    def test_every_point(self):
        for matrix, t in listed_webs(40):
            for p, wanted in enumerate(plain_paths(matrix, t)[0]):
                self.assertEqual(path_of(matrix, t, p), wanted)

    def test_arrows_lead_to_lowered_paths(self):
        for name, t in (("A3", (1, 1, 1)), ("G2", (1, 1)), ("D4", (0, 1, 0, 0))):
            matrix = plain_matrix(name)
            arrows = crystal(matrix, t)[1]
            for p in (0, 1, 5, 11, 20):
                for i, q in enumerate(arrows[p]):
                    wanted = None if q < 0 else path_of(matrix, t, q)
                    self.assertEqual(lowered(matrix, path_of(matrix, t, p), i), wanted)


class Limit(unittest.TestCase):
    def test_just_400_points(self):
        for name, t in FULL:
            matrix = plain_matrix(name)
            told = crystal(matrix, t)
            self.assertEqual(len(told[0]), 400)
            self.assertEqual(crystal_of_path(matrix, straight(t)), told)
            self.assertEqual(path_of(matrix, t, 0), straight(t))
            self.assertEqual(plain_numbers(matrix, t),
                             tuple((v, told[0].count(v)) for v in sorted(set(told[0])) if min(v) >= 0))

    def check_raises(self, call):
        with self.assertRaises(TooMany) as caught:
            call()
        self.assertEqual(caught.exception.limit, 400)

    def test_more_points(self):
        for name, t in OVER:
            matrix = plain_matrix(name)
            self.assertGreater(plain_size(matrix, t), 400)
            self.check_raises(lambda: crystal(matrix, t))
            self.check_raises(lambda: path_of(matrix, t, 0))
            self.check_raises(lambda: path_of(matrix, t, 3))
            self.check_raises(lambda: crystal_of_path(matrix, straight(t)))
            self.check_raises(lambda: crystal_of_path(matrix, path((0,) * len(t), (1,) * len(t), t)))

    def test_the_size_is_that_of_the_last_point(self):
        matrix = plain_matrix("A1")
        self.assertEqual(crystal_of_path(matrix, path((0,), (1000,), (1,))), ONE)
        self.check_raises(lambda: crystal_of_path(matrix, path((0,), (1,), (400,))))

    def test_samples_have_webs_of_every_name(self):
        for name, tops in WEBS:
            self.assertTrue(any(plain_size(plain_matrix(name), t) <= 400 for t in tops))
