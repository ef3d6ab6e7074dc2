"""Promises [34] to [36]."""

import unittest
from itertools import product

from tests.plain_webs import (
    listed_anew, plain_against, plain_roots, plain_size, plain_sum, plain_weight, spread, tops_up_to,
)
from tests.plain_words import plain_parts
from tests.samples import SIMPLES, all_listed, plain_listed, plain_matrix, plain_reflected
from weightwebs.errors import TooMany
from weightwebs.flats import flat_weights
from weightwebs.levels import level_of, level_product, level_table, level_turns, within_level
from weightwebs.products import opposite_weight, product_by_reflections

# The levels of the weights with a single 1, and g, as the textbooks tell them.
MARKS = {
    "A1": (1,), "A2": (1, 1), "A3": (1, 1, 1), "A4": (1, 1, 1, 1), "B2": (1, 1), "B3": (1, 2, 1),
    "B4": (1, 2, 2, 1), "C3": (1, 1, 1), "C4": (1, 1, 1, 1), "D4": (1, 2, 1, 1), "F4": (2, 3, 2, 1), "G2": (1, 2),
}

HEIGHTS = {
    "A1": 2, "A2": 3, "A3": 4, "A4": 5, "B2": 3, "B3": 5, "B4": 7, "C3": 4, "C4": 5, "D4": 6, "F4": 9, "G2": 4,
}

# The number of weights whose webs turn the table of a level of at least 1 about, with the determinant.
FLATS = {
    "A1": 2, "A2": 3, "A3": 4, "A4": 5, "B2": 2, "B3": 2, "B4": 2, "C3": 2, "C4": 2, "D4": 4, "F4": 1, "G2": 1,
}

# Products by hand, or as the textbooks tell them: name, level, a, b, the pairs.
TOLD = (
    ("A2", 1, (1, 0), (1, 0), (((0, 1), 1),)),
    ("A2", 1, (1, 0), (0, 1), (((0, 0), 1),)),
    ("A2", 2, (1, 1), (1, 1), (((0, 0), 1), ((1, 1), 1))),
    ("A2", 2, (2, 0), (1, 1), (((0, 1), 1),)),
    ("A2", 3, (1, 1), (1, 1), (((0, 0), 1), ((0, 3), 1), ((1, 1), 2), ((3, 0), 1))),
    ("A2", 4, (1, 1), (1, 1), (((0, 0), 1), ((0, 3), 1), ((1, 1), 2), ((2, 2), 1), ((3, 0), 1))),
    ("B2", 1, (0, 1), (0, 1), (((0, 0), 1), ((1, 0), 1))),
    ("B2", 1, (1, 0), (1, 0), (((0, 0), 1),)),
    ("B2", 1, (1, 0), (0, 1), (((0, 1), 1),)),
    ("B3", 1, (0, 0, 1), (0, 0, 1), (((0, 0, 0), 1), ((1, 0, 0), 1))),
    ("B4", 1, (0, 0, 0, 1), (0, 0, 0, 1), (((0, 0, 0, 0), 1), ((1, 0, 0, 0), 1))),
    ("G2", 1, (1, 0), (1, 0), (((0, 0), 1), ((1, 0), 1))),
    ("F4", 1, (0, 0, 0, 1), (0, 0, 0, 1), (((0, 0, 0, 0), 1), ((0, 0, 0, 1), 1))),
    ("C3", 1, (1, 0, 0), (1, 0, 0), (((0, 0, 0), 1), ((0, 1, 0), 1))),
    ("D4", 1, (1, 0, 0, 0), (0, 0, 1, 0), (((0, 0, 0, 1), 1),)),
    ("D4", 1, (1, 0, 0, 0), (1, 0, 0, 0), (((0, 0, 0, 0), 1),)),
    ("A4", 1, (1, 0, 0, 0), (0, 0, 1, 0), (((0, 0, 0, 1), 1),)),
)

# Levels at which all pairs of weights have a product of sizes up to 1000.
SMALL_LEVELS = (
    ("A1", 0), ("A1", 1), ("A1", 2), ("A1", 5), ("A1", 11), ("A2", 0), ("A2", 1), ("A2", 2), ("A2", 3), ("A2", 4),
    ("B2", 1), ("B2", 2), ("G2", 0), ("G2", 1), ("A3", 1), ("A3", 2), ("B3", 1), ("C3", 1), ("A4", 1), ("B4", 1),
    ("D4", 1), ("F4", 1),
)


def plain_top(matrix):
    return max(plain_roots(matrix), key=sum)


def plain_level(matrix, t):
    return plain_against(matrix, t, plain_top(matrix))


def plain_within(matrix, k):
    ranges = [range(k + 1)] * len(matrix)
    return tuple(t for t in product(*ranges) if plain_level(matrix, t) <= k)


def plain_level_product(matrix, a, b, k):
    """The product of the document, but the reflections are tried in another sequence."""
    top = plain_top(matrix)
    u = (1,) * len(matrix)
    bound = k + plain_against(matrix, u, top) + 1
    found = {}
    for t, n in plain_parts(matrix, (a, b)):
        x = plain_sum(t, u)
        while x is not None and (min(x) <= 0 or plain_against(matrix, x, top) >= bound):
            height = plain_against(matrix, x, top)
            n = -n
            if 0 in x or height == bound:
                x = None
            elif height > bound:
                x = plain_sum(x, plain_weight(matrix, top), int(bound - height))
            else:
                x = plain_reflected(matrix, x, max(i for i, entry in enumerate(x) if entry < 0))
        if x is not None:
            v = plain_sum(x, u, -1)
            found[v] = found.get(v, 0) + n
    return tuple(sorted((v, n) for v, n in found.items() if n != 0))


def times(table, other):
    columns = list(zip(*other))
    return tuple(tuple(sum(a * b for a, b in zip(row, column)) for column in columns) for row in table)


def tables(matrix, k):
    return {a: level_table(matrix, a, k) for a in within_level(matrix, k)}


class LevelOf(unittest.TestCase):
    def test_single_ones(self):
        for name, marks in MARKS.items():
            rank = len(marks)
            for i in range(rank):
                t = tuple(int(j == i) for j in range(rank))
                self.assertEqual(level_of(plain_matrix(name), t), marks[i])

    def test_zeros_and_sums(self):
        for name, marks in MARKS.items():
            for matrix in all_listed(name):
                rank = len(matrix)
                self.assertEqual(level_of(matrix, (0,) * rank), 0)
                a, b = (1, 2, 0, 10 ** 20)[:rank], (0, 3, 5, 1)[:rank]
                self.assertEqual(level_of(matrix, plain_sum(a, b)), level_of(matrix, a) + level_of(matrix, b))
                self.assertEqual(level_of(matrix, a), plain_level(matrix, a))

    def test_the_top_root_has_the_level_2(self):
        for name in SIMPLES:
            for matrix in all_listed(name):
                self.assertEqual(level_of(matrix, plain_weight(matrix, plain_top(matrix))), 2)


class WithinLevel(unittest.TestCase):
    def test_by_hand(self):
        self.assertEqual(within_level(plain_matrix("A1"), 3), ((0,), (1,), (2,), (3,)))
        self.assertEqual(within_level(plain_matrix("A2"), 1), ((0, 0), (0, 1), (1, 0)))
        self.assertEqual(within_level(plain_matrix("G2"), 2), ((0, 0), (0, 1), (1, 0), (2, 0)))
        self.assertEqual(within_level(plain_matrix("F4"), 1), ((0, 0, 0, 0), (0, 0, 0, 1)))

    def test_level_0(self):
        for name in SIMPLES:
            rank = len(plain_matrix(name))
            self.assertEqual(within_level(plain_matrix(name), 0), ((0,) * rank,))

    def test_all_of_them_ascending(self):
        for name in SIMPLES:
            for matrix in all_listed(name):
                for k in range(5):
                    self.assertEqual(within_level(matrix, k), plain_within(matrix, k))

    def test_just_400_and_above(self):
        a1 = plain_matrix("A1")
        self.assertEqual(within_level(a1, 399), tuple((k,) for k in range(400)))
        self.check_raises(a1, 400)
        # A square of weights: 20 times 20.
        self.assertEqual(len(within_level(plain_matrix("G2"), 38)), 400)
        self.check_raises(plain_matrix("G2"), 39)

    def test_near_the_limit(self):
        for name in SIMPLES:
            matrix = plain_matrix(name)
            marks = MARKS[name]
            counts = [1] + [0] * 45
            for mark in marks:
                for k in range(mark, len(counts)):
                    counts[k] += counts[k - mark]
            for k in range(len(counts)):
                if sum(counts[:k + 1]) <= 400:
                    self.assertEqual(len(within_level(matrix, k)), sum(counts[:k + 1]))
                else:
                    self.check_raises(matrix, k)

    def test_great_levels(self):
        for name in SIMPLES:
            for k in (500, 10 ** 9, 10 ** 40):
                self.check_raises(plain_matrix(name), k)

    def check_raises(self, matrix, k):
        with self.assertRaises(TooMany) as caught:
            within_level(matrix, k)
        self.assertEqual(caught.exception.limit, 400)


class LevelProduct(unittest.TestCase):
    def test_one_row_by_hand(self):
        matrix = plain_matrix("A1")
        for k in range(9):
            for a, b in product(range(k + 1), repeat=2):
                wanted = tuple(((t,), 1) for t in range(abs(a - b), min(a + b, 2 * k - a - b) + 1, 2))
                self.assertEqual(level_product(matrix, (a,), (b,), k), wanted)

    def test_told(self):
        for name, k, a, b, wanted in TOLD:
            self.assertEqual(level_product(plain_matrix(name), a, b, k), wanted)
            self.assertEqual(level_product(plain_matrix(name), b, a, k), wanted)

    def test_zero_weight(self):
        for name in SIMPLES:
            matrix = plain_matrix(name)
            zero = (0,) * len(matrix)
            self.assertEqual(level_product(matrix, zero, zero, 0), ((zero, 1),))
            for t in tops_up_to(matrix, 100):
                for more in (0, 1, 10 ** 20):
                    self.assertEqual(level_product(matrix, zero, t, level_of(matrix, t) + more), ((t, 1),))
                    self.assertEqual(level_product(matrix, t, zero, level_of(matrix, t) + more), ((t, 1),))

    def pairs(self, matrix, most):
        tops = [t for t in tops_up_to(matrix, most // 4) if any(t)]
        found = [(a, b) for a, b in product(tops, repeat=2) if plain_size(matrix, a) * plain_size(matrix, b) <= most]
        return spread(found, 15)

    def test_levels_that_grow(self):
        for name in SIMPLES:
            matrix = plain_matrix(name)
            for a, b in self.pairs(matrix, 400):
                least = max(level_of(matrix, a), level_of(matrix, b))
                most = level_of(matrix, a) + level_of(matrix, b)
                numbers = {}
                for k in range(least, most + 3):
                    found = level_product(matrix, a, b, k)
                    self.assertEqual(found, level_product(matrix, b, a, k))
                    self.assertEqual(found, tuple(sorted(found)))
                    told = dict(found)
                    self.assertEqual(len(told), len(found))
                    self.assertTrue(all(n >= 1 and level_of(matrix, t) <= k for t, n in found))
                    self.assertTrue(all(told.get(t, 0) >= n for t, n in numbers.items()))
                    wanted = 1 if b == opposite_weight(matrix, a) else 0
                    self.assertEqual(told.get((0,) * len(matrix), 0), wanted)
                    numbers = told
                    if k >= most:
                        self.assertEqual(found, product_by_reflections(matrix, a, b))

    def test_reflections_in_another_sequence(self):
        for name in SIMPLES:
            matrix = plain_matrix(name)
            for a, b in self.pairs(matrix, 250)[::2]:
                for k in range(max(level_of(matrix, a), level_of(matrix, b)), level_of(matrix, plain_sum(a, b)) + 1):
                    self.assertEqual(level_product(matrix, a, b, k), plain_level_product(matrix, a, b, k))

    def test_rows_listed_anew(self):
        for name, k, a, b, wanted in TOLD:
            matrix = plain_matrix(name)
            listing = tuple(range(len(matrix)))[1:] + (0,)
            found = level_product(
                plain_listed(matrix, listing), listed_anew(a, listing), listed_anew(b, listing), k)
            self.assertEqual(found, tuple(sorted((listed_anew(t, listing), n) for t, n in wanted)))

    def test_the_least_level_may_leave_little(self):
        # At the level of a weight with entries at its ends the weight turns all others about.
        matrix = plain_matrix("A2")
        for k in range(1, 7):
            for b in within_level(matrix, k):
                if plain_size(matrix, (k, 0)) * plain_size(matrix, b) <= 1000:
                    wanted = (((k - b[0] - b[1], b[0]), 1),)
                    self.assertEqual(level_product(matrix, (k, 0), b, k), wanted)

    def test_limit(self):
        a1, a2 = plain_matrix("A1"), plain_matrix("A2")
        self.assertEqual(level_product(a1, (9,), (99,), 99), (((90,), 1),))
        self.assertEqual(level_product(a1, (0,), (999,), 999), (((999,), 1),))
        self.assertEqual(level_product(a1, (999,), (0,), 2000), (((999,), 1),))
        for matrix, a, b, k in (
            (a1, (12,), (76,), 76), (a1, (1000,), (0,), 1000), (a1, (0,), (1000,), 10 ** 30), (a2, (4, 4), (2, 1), 8),
            (plain_matrix("F4"), (0, 0, 0, 1), (1, 0, 0, 0), 2),
        ):
            with self.assertRaises(TooMany) as caught:
                level_product(matrix, a, b, k)
            self.assertEqual(caught.exception.limit, 1000)


class LevelTable(unittest.TestCase):
    def test_by_hand(self):
        a1 = plain_matrix("A1")
        self.assertEqual(level_table(a1, (1,), 2), ((0, 1, 0), (1, 0, 1), (0, 1, 0)))
        self.assertEqual(level_table(a1, (2,), 2), ((0, 0, 1), (0, 1, 0), (1, 0, 0)))
        self.assertEqual(level_table(plain_matrix("G2"), (1, 0), 1), ((0, 1), (1, 1)))
        self.assertEqual(level_table(plain_matrix("A2"), (1, 0), 1), ((0, 0, 1), (1, 0, 0), (0, 1, 0)))
        self.assertEqual(level_table(a1, (0,), 0), ((1,),))

    def test_zero_weight(self):
        for name, k in SMALL_LEVELS:
            matrix = plain_matrix(name)
            many = len(within_level(matrix, k))
            wanted = tuple(tuple(int(i == j) for j in range(many)) for i in range(many))
            self.assertEqual(level_table(matrix, (0,) * len(matrix), k), wanted)

    def test_entries(self):
        for name, k in SMALL_LEVELS:
            matrix = plain_matrix(name)
            weights = within_level(matrix, k)
            for a, table in tables(matrix, k).items():
                for b, row in zip(weights, table):
                    told = dict(level_product(matrix, a, b, k))
                    self.assertEqual(row, tuple(told.get(t, 0) for t in weights))

    def test_tables_multiplied(self):
        for name, k in SMALL_LEVELS:
            matrix = plain_matrix(name)
            told = tables(matrix, k)
            many = len(told)
            for a, b in product(told, repeat=2):
                both = times(told[a], told[b])
                self.assertEqual(both, times(told[b], told[a]))
                total = tuple(
                    tuple(sum(n * told[t][i][j] for t, n in level_product(matrix, a, b, k)) for j in range(many))
                    for i in range(many)
                )
                self.assertEqual(both, total)

    def test_limits_in_their_sequence(self):
        a1, a2 = plain_matrix("A1"), plain_matrix("A2")
        self.assertEqual(len(level_table(a1, (1,), 399)), 400)
        for matrix, a, k, limit in (
            (a1, (1,), 400, 400), (a1, (10 ** 20,), 10 ** 21, 400), (a1, (1000,), 399 + 1000, 400),
            (a1, (2,), 399, 1000), (a1, (10,), 90 + 1, 1000), (a2, (1, 1), 9, 1000), (a2, (0, 0), 19, 1000),
            (a2, (0, 0), 26, 1000), (a2, (0, 0), 27, 400), (plain_matrix("C4"), (0, 0, 1, 0), 1, 1000),
        ):
            with self.assertRaises(TooMany) as caught:
                level_table(matrix, a, k)
            self.assertEqual(caught.exception.limit, limit)
        self.assertEqual(len(level_table(a1, (9,), 99)), 100)
        self.assertEqual(len(level_table(a1, (10,), 89)), 90)
        self.assertEqual(len(level_table(a2, (1, 1), 8)), 45)
        self.assertEqual(len(level_table(a2, (0, 0), 18)), 190)


class LevelTurns(unittest.TestCase):
    def test_by_hand(self):
        self.assertEqual(level_turns(plain_matrix("A1"), 5), ((0,), (5,)))
        self.assertEqual(level_turns(plain_matrix("A2"), 2), ((0, 0), (0, 2), (2, 0)))
        self.assertEqual(level_turns(plain_matrix("B2"), 1), ((0, 0), (1, 0)))
        self.assertEqual(level_turns(plain_matrix("G2"), 1), ((0, 0),))
        self.assertEqual(level_turns(plain_matrix("D4"), 1), ((0, 0, 0, 0), (0, 0, 0, 1), (0, 0, 1, 0), (1, 0, 0, 0)))

    def test_level_0(self):
        for name in SIMPLES:
            matrix = plain_matrix(name)
            self.assertEqual(level_turns(matrix, 0), ((0,) * len(matrix),))

    def test_as_many_as_flat_weights(self):
        for name, k in SMALL_LEVELS:
            matrix = plain_matrix(name)
            found = level_turns(matrix, k)
            self.assertEqual(len(found), FLATS[name] if k else 1)
            self.assertEqual(len(flat_weights(matrix)), FLATS[name])
            wanted = tuple(
                a for a, table in tables(matrix, k).items()
                if all(sorted(row) == [0] * (len(row) - 1) + [1] for row in table)
            )
            self.assertEqual(found, wanted)

    def test_limits_in_their_sequence(self):
        a1, a2, c4 = [plain_matrix(name) for name in ("A1", "A2", "C4")]
        self.assertEqual(level_turns(a1, 30), ((0,), (30,)))
        for matrix, k, limit in (
            (a1, 31, 1000), (a1, 399, 1000), (a1, 400, 400), (a1, 10 ** 20, 400), (a2, 6, 1000), (a2, 26, 1000),
            (a2, 27, 400), (c4, 1, 1000),
        ):
            with self.assertRaises(TooMany) as caught:
                level_turns(matrix, k)
            self.assertEqual(caught.exception.limit, limit)


class Samples(unittest.TestCase):
    def test_heights(self):
        for name, g in HEIGHTS.items():
            matrix = plain_matrix(name)
            self.assertEqual(plain_level(matrix, (1,) * len(matrix)) + 1, g)
