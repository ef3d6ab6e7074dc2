"""Promises [27] and [28]."""

import unittest
from itertools import product

from tests.plain_webs import listed_anew, plain_size, plain_sum, spread, tops_up_to
from tests.plain_words import plain_parts, size_of_parts
from tests.samples import ALL_NAMES, plain_listed, plain_matrix
from tests.test_turns import plain_opposite
from weightwebs.errors import TooMany
from weightwebs.products import (
    opposite_weight, power_parts, product_by_peeling, product_by_points, product_by_reflections, product_by_walks,
)

WAYS = (product_by_reflections, product_by_points, product_by_walks, product_by_peeling)

# Those that build the crystal of a.
BY_CRYSTALS = (product_by_points, product_by_walks)

# Those that take the numbers alone.
BY_NUMBERS = (product_by_reflections, product_by_peeling)

# Every name with a listing that turns its rows about.
TURNED = (0,), (1, 0), (1, 2, 0), (2, 0, 3, 1)

# As the textbooks tell them.
TOLD = (
    ("A2", (1, 1), (1, 1), (((0, 0), 1), ((0, 3), 1), ((1, 1), 2), ((2, 2), 1), ((3, 0), 1))),
    ("A2", (1, 0), (1, 0), (((0, 1), 1), ((2, 0), 1))),
    ("A2", (1, 0), (0, 1), (((0, 0), 1), ((1, 1), 1))),
    ("B2", (1, 0), (1, 0), (((0, 0), 1), ((0, 2), 1), ((2, 0), 1))),
    ("B2", (0, 1), (0, 1), (((0, 0), 1), ((0, 2), 1), ((1, 0), 1))),
    ("G2", (1, 0), (1, 0), (((0, 0), 1), ((0, 1), 1), ((1, 0), 1), ((2, 0), 1))),
    ("A3", (0, 1, 0), (0, 1, 0), (((0, 0, 0), 1), ((0, 2, 0), 1), ((1, 0, 1), 1))),
    ("D4", (1, 0, 0, 0), (1, 0, 0, 0), (((0, 0, 0, 0), 1), ((0, 1, 0, 0), 1), ((2, 0, 0, 0), 1))),
    ("D4", (1, 0, 0, 0), (0, 0, 1, 0), (((0, 0, 0, 1), 1), ((1, 0, 1, 0), 1))),
    ("C4", (1, 0, 0, 0), (1, 0, 0, 0), (((0, 0, 0, 0), 1), ((0, 1, 0, 0), 1), ((2, 0, 0, 0), 1))),
    ("B4", (1, 0, 0, 0), (0, 0, 0, 1), (((0, 0, 0, 1), 1), ((1, 0, 0, 1), 1))),
    ("F4", (0, 0, 0, 1), (0, 0, 0, 1),
     (((0, 0, 0, 0), 1), ((0, 0, 0, 1), 1), ((0, 0, 0, 2), 1), ((0, 0, 1, 0), 1), ((1, 0, 0, 0), 1))),
    ("A1+A1", (1, 2), (1, 1), (((0, 1), 1), ((0, 3), 1), ((2, 1), 1), ((2, 3), 1))),
    ("A1+A2", (1, 1, 0), (1, 0, 1), (((0, 0, 0), 1), ((0, 1, 1), 1), ((2, 0, 0), 1), ((2, 1, 1), 1))),
)


def pairs_of(matrix, many, most):
    """Pairs of topmost weights with a product of sizes up to a bound, spread over greater and smaller ones."""
    tops = [t for t in tops_up_to(matrix, 60) if any(t)]
    found = [(a, b) for a, b in product(spread(tops, 30), repeat=2)
             if plain_size(matrix, a) * plain_size(matrix, b) <= most]
    return spread(found, many)


class Products(unittest.TestCase):
    def check(self, matrix, a, b, wanted):
        for way in WAYS:
            self.assertEqual(way(matrix, a, b), wanted, (way.__name__, matrix, a, b))

    def test_told(self):
        for name, a, b, wanted in TOLD:
            self.check(plain_matrix(name), a, b, wanted)
            self.check(plain_matrix(name), b, a, wanted)

    def test_one_row(self):
        matrix = plain_matrix("A1")
        for a, b in product(range(12), repeat=2):
            wanted = tuple(((t,), 1) for t in range(abs(a - b), a + b + 1, 2))
            self.check(matrix, (a,), (b,), wanted)

    def test_zero_weight(self):
        for name in ALL_NAMES:
            matrix = plain_matrix(name)
            zero = (0,) * len(matrix)
            for t in tops_up_to(matrix, 60)[::3]:
                self.check(matrix, zero, t, ((t, 1),))
                self.check(matrix, t, zero, ((t, 1),))

    def test_every_name(self):
        for name in ALL_NAMES:
            matrix = plain_matrix(name)
            for a, b in pairs_of(matrix, 14, 200):
                wanted = plain_parts(matrix, (a, b))
                self.check(matrix, a, b, wanted)
                self.assertEqual(product_by_points(matrix, b, a), wanted)
                self.assertEqual(size_of_parts(matrix, wanted), plain_size(matrix, a) * plain_size(matrix, b))

    def test_rows_listed_anew(self):
        for name in ALL_NAMES:
            matrix = plain_matrix(name)
            listing = TURNED[len(matrix) - 1]
            other = plain_listed(matrix, listing)
            for a, b in pairs_of(matrix, 5, 160):
                wanted = tuple(sorted((listed_anew(t, listing), n) for t, n in plain_parts(matrix, (a, b))))
                self.check(other, listed_anew(a, listing), listed_anew(b, listing), wanted)

    def test_great_products(self):
        for name in ALL_NAMES:
            matrix = plain_matrix(name)
            for a, b in pairs_of(matrix, 3, 1000):
                if plain_size(matrix, a) <= 400:
                    found = product_by_points(matrix, a, b)
                    self.assertEqual(size_of_parts(matrix, found), plain_size(matrix, a) * plain_size(matrix, b))
                    self.check(matrix, a, b, found)
                    if plain_size(matrix, b) <= 400:
                        self.check(matrix, b, a, found)

    def test_sum_once_and_opposite_weight(self):
        for name in ALL_NAMES:
            matrix = plain_matrix(name)
            zero = (0,) * len(matrix)
            for a, b in pairs_of(matrix, 12, 200):
                for way in WAYS:
                    parts = dict(way(matrix, a, b))
                    self.assertEqual(parts[plain_sum(a, b)], 1)
                    self.assertEqual(parts.get(zero, 0), 1 if b == opposite_weight(matrix, a) else 0)
                    self.assertGreaterEqual(min(parts.values()), 1)


class Limits(unittest.TestCase):
    def check_raises(self, way, limit, *arguments):
        with self.assertRaises(TooMany) as caught:
            way(*arguments)
        self.assertEqual(caught.exception.limit, limit)

    def test_just_1000(self):
        for name, a, b in (
            ("A1", (9,), (99,)), ("A1", (24,), (39,)), ("A1", (39,), (24,)), ("A1", (0,), (999,)),
            ("A1", (1,), (499,)), ("A2", (4, 4), (1, 1)), ("A1+A1", (4, 1), (9, 9)), ("B2", (2, 0), (0, 0)),
            ("B2", (0, 2), (1, 1)), ("A1+A1+A1+A1", (4, 1, 0, 0), (0, 4, 3, 4)),
        ):
            matrix = plain_matrix(name)
            whole = plain_size(matrix, a) * plain_size(matrix, b)
            self.assertLessEqual(whole, 1000)
            found = product_by_reflections(matrix, a, b)
            self.assertEqual(size_of_parts(matrix, found), whole)
            for way in WAYS:
                self.assertEqual(way(matrix, a, b), found)

    def test_samples_come_up_to_the_bound(self):
        self.assertEqual(plain_size(plain_matrix("A1+A1"), (4, 1)) * plain_size(plain_matrix("A1+A1"), (9, 9)), 1000)
        self.assertEqual(plain_size(plain_matrix("A1"), (24,)) * plain_size(plain_matrix("A1"), (39,)), 1000)

    def test_more_than_1000(self):
        for name, a, b in (
            ("A1", (12,), (76,)), ("A1", (76,), (12,)), ("A1", (1000,), (0,)), ("A1", (0,), (1000,)),
            ("A1", (500,), (2,)), ("A1", (10 ** 30,), (10 ** 40,)), ("A2", (4, 4), (2, 1)),
            ("F4", (0, 0, 0, 1), (1, 0, 0, 0)),
            ("A1+A1", (30, 0), (0, 35)), ("G2", (0, 2), (1, 1)), ("D4", (1, 1, 0, 0), (0, 1, 0, 0)),
            ("A1", (400,), (400,)),
        ):
            for way in WAYS:
                self.check_raises(way, 1000, plain_matrix(name), a, b)

    def test_crystals_of_more_than_400_points(self):
        for name, a, b in (
            ("A1", (400,), (0,)), ("A1", (400,), (1,)), ("A1", (499,), (1,)), ("A1", (999,), (0,)),
            ("A2", (0, 27), (0, 0)), ("B2", (0, 12), (0, 0)), ("A1+A1", (0, 400), (1, 0)),
            ("D4", (1, 1, 1, 0), (0, 0, 0, 0)),
        ):
            matrix = plain_matrix(name)
            whole = plain_size(matrix, a) * plain_size(matrix, b)
            for way in BY_CRYSTALS:
                self.check_raises(way, 1000 if whole > 1000 else 400, matrix, a, b)
            if whole <= 1000:
                wanted = product_by_points(matrix, b, a)
                for way in BY_NUMBERS:
                    self.assertEqual(way(matrix, a, b), wanted)
                # The web of b may have more points.
                self.assertEqual(product_by_walks(matrix, b, a), wanted)

    def test_webs_of_more_than_600(self):
        matrix = plain_matrix("A1")
        for way in BY_NUMBERS:
            self.assertEqual(way(matrix, (999,), (0,)), (((999,), 1),))
            self.assertEqual(way(matrix, (700,), (0,)), (((700,), 1),))
        for way in WAYS:
            self.assertEqual(way(matrix, (0,), (999,)), (((999,), 1),))

    def test_just_400_points(self):
        matrix = plain_matrix("A1")
        for way in WAYS:
            self.assertEqual(way(matrix, (399,), (1,)), (((398,), 1), ((400,), 1)))

    def test_powers(self):
        a1 = plain_matrix("A1")
        self.assertEqual(size_of_parts(a1, power_parts(a1, (9,), 3)), 1000)
        self.assertEqual(power_parts(a1, (999,), 1), (((999,), 1),))
        self.assertEqual(size_of_parts(a1, power_parts(a1, (30,), 2)), 961)
        self.assertEqual(size_of_parts(a1, power_parts(a1, (2,), 6)), 729)
        self.assertEqual(power_parts(a1, (10 ** 30,), 0), (((0,), 1),))
        for t, k in (((10,), 3), ((1000,), 1), ((31,), 2), ((3,), 5), ((3,), 6), ((10 ** 30,), 1)):
            self.check_raises(power_parts, 1000, a1, t, k)
        self.check_raises(power_parts, 1000, plain_matrix("A2"), (1, 1), 4)
        self.check_raises(power_parts, 1000, plain_matrix("F4"), (0, 0, 0, 1), 3)


class PowerParts(unittest.TestCase):
    def test_by_hand(self):
        a1, a2 = plain_matrix("A1"), plain_matrix("A2")
        self.assertEqual(power_parts(a1, (1,), 6), (((0,), 5), ((2,), 9), ((4,), 5), ((6,), 1)))
        self.assertEqual(power_parts(a1, (1,), 5), (((1,), 5), ((3,), 4), ((5,), 1)))
        self.assertEqual(power_parts(a2, (1, 0), 3), (((0, 0), 1), ((1, 1), 2), ((3, 0), 1)))
        self.assertEqual(power_parts(a2, (1, 0), 6)[0], ((0, 0), 5))

    def test_none_and_one(self):
        for name in ALL_NAMES:
            matrix = plain_matrix(name)
            zero = (0,) * len(matrix)
            for t in tops_up_to(matrix, 30):
                self.assertEqual(power_parts(matrix, t, 0), ((zero, 1),))
                self.assertEqual(power_parts(matrix, t, 1), ((t, 1),))
            for k in range(7):
                self.assertEqual(power_parts(matrix, zero, k), ((zero, 1),))

    def test_every_name(self):
        for name in ALL_NAMES:
            matrix = plain_matrix(name)
            for t in [top for top in tops_up_to(matrix, 27) if any(top)][:4]:
                for k in range(2, 7):
                    if plain_size(matrix, t) ** k <= 600:
                        found = power_parts(matrix, t, k)
                        self.assertEqual(found, plain_parts(matrix, (t,) * k))
                        self.assertEqual(size_of_parts(matrix, found), plain_size(matrix, t) ** k)


class OppositeWeight(unittest.TestCase):
    def test_by_hand(self):
        self.assertEqual(opposite_weight(plain_matrix("A1"), (5,)), (5,))
        self.assertEqual(opposite_weight(plain_matrix("A3"), (1, 2, 3)), (3, 2, 1))
        self.assertEqual(opposite_weight(plain_matrix("A4"), (1, 2, 3, 4)), (4, 3, 2, 1))
        self.assertEqual(opposite_weight(plain_matrix("D4"), (1, 2, 3, 4)), (1, 2, 3, 4))
        self.assertEqual(opposite_weight(plain_matrix("A2+A2"), (1, 2, 3, 4)), (2, 1, 4, 3))
        self.assertEqual(opposite_weight(plain_matrix("A1+A3"), (10 ** 20, 0, 5, 7)), (10 ** 20, 7, 5, 0))
        self.assertEqual(opposite_weight(((2, 0, -1), (0, 2, -1), (-1, -1, 2)), (1, 2, 3)), (2, 1, 3))

    def test_every_name(self):
        for name in ALL_NAMES:
            rows = plain_opposite(name)
            t = (5, 0, 2, 9)[:len(rows)]
            found = opposite_weight(plain_matrix(name), t)
            self.assertEqual([found[j] for j in rows], list(t))
