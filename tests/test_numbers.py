"""Promises [13] to [16]."""

import unittest
from functools import lru_cache
from itertools import permutations, product

from tests.plain_webs import (
    WEBS, listed_anew, listed_webs, plain_numbers, plain_roots, plain_signs, plain_size, plain_sum,
    plain_under, plain_web, tops_up_to,
)
from tests.samples import ALL_NAMES, SIMPLES, all_matrices, plain_listed, plain_matrix
from weightwebs.cuts import numbers_by_cuts
from weightwebs.errors import TooMany
from weightwebs.numbers import (
    numbers_by_partitions, numbers_by_signs, numbers_by_strings, partition_number, size,
)

WAYS = (numbers_by_strings, numbers_by_partitions, numbers_by_signs)

# The sizes of the webs of the weights with a single 1, as the textbooks tell them.
SIZES = {
    "A1": (2,), "A2": (3, 3), "A3": (4, 6, 4), "A4": (5, 10, 10, 5), "B2": (5, 4), "B3": (7, 21, 8),
    "B4": (9, 36, 84, 16), "C3": (6, 14, 14), "C4": (8, 27, 48, 42), "D4": (8, 28, 8, 8),
    "F4": (52, 1274, 273, 26), "G2": (7, 14),
}

# Webs of just 600 points.
FULL = (
    ("A1", (599,)), ("A1+A1", (599, 0)), ("A1+A1", (0, 599)), ("A1+A1", (23, 24)), ("A1+A1+A1", (9, 5, 9)),
    ("A1+A2", (39, 2, 1)), ("A1+A1+A1+A1", (1, 1, 9, 14)), ("A2+A2", (4, 2, 0, 3)),
    ("A1+A3", (1, 2, 1, 2)), ("B2+B2", (1, 0, 0, 7)),
)

# Webs of more than 600 points, 601 where there is one.
OVER = (
    ("A1", (600,)), ("A1+A1", (600, 0)), ("A1+A1", (0, 600)), ("A1+A1+A1+A1", (0, 0, 600, 0)),
    ("A2", (34, 0)), ("B2", (0, 15)), ("G2", (9, 0)), ("A4", (0, 0, 0, 10)), ("F4", (0, 1, 0, 0)),
    ("D4", (2, 2, 0, 0)), ("A1", (10 ** 40,)), ("C4", (0, 10 ** 40, 0, 1)), ("F4", (10 ** 9,) * 4),
)


@lru_cache(maxsize=None)
def plain_ways(roots, c):
    """The number of ways to write c as a sum of the roots, tried out."""
    if min(c) < 0:
        return 0
    if not roots:
        return int(max(c) == 0)
    return plain_ways(roots[1:], c) + plain_ways(roots, plain_sum(c, roots[0], -1))


def strips(shape, many):
    """The shapes left when a strip of so many boxes, no two in one column, is taken off."""
    found = []
    for rest in product(*[range(low, high + 1) for high, low in zip(shape, shape[1:] + (0,))]):
        if sum(shape) - sum(rest) == many:
            found.append(rest)
    return found


def tableaux(shape, content):
    if not content:
        return int(sum(shape) == 0)
    return sum(tableaux(rest, content[:-1]) for rest in strips(shape, content[-1]))


def shape_of(v):
    """The partition whose differences are the entries of a topmost weight for a name A."""
    return tuple(sum(v[i:]) for i in range(len(v) + 1))


class Size(unittest.TestCase):
    def test_least_webs(self):
        for name, sizes in SIZES.items():
            rank = len(sizes)
            for i in range(rank):
                t = tuple(int(j == i) for j in range(rank))
                self.assertEqual(size(SIMPLES[name], t), sizes[i])

    def test_zero_weight(self):
        for name, matrix in all_matrices():
            self.assertEqual(size(matrix, (0,) * len(matrix)), 1)

    def test_every_matrix_against_the_product_of_ratios(self):
        for name, matrix in all_matrices():
            for t in ((1, 1, 1, 1), (2, 0, 1, 3), (10 ** 20, 7, 10 ** 25, 0)):
                t = t[:len(matrix)]
                self.assertEqual(size(matrix, t), plain_size(matrix, t))

    def test_one_is_the_power_of_two(self):
        for name in ALL_NAMES:
            matrix = plain_matrix(name)
            self.assertEqual(size(matrix, (1,) * len(matrix)), 2 ** len(plain_roots(matrix)))

    def test_very_great_weights(self):
        great = 10 ** 60
        self.assertEqual(size(plain_matrix("A1"), (great,)), great + 1)
        self.assertEqual(size(plain_matrix("A2"), (great, 5)), (great + 1) * 6 * (great + 7) // 2)
        self.assertEqual(size(plain_matrix("A1+A1"), (great, great)), (great + 1) ** 2)
        self.assertEqual(size(plain_matrix("F4"), (great - 1,) * 4), great ** 24)

    def test_is_the_sum_of_the_numbers(self):
        for matrix, t in listed_webs(100):
            self.assertEqual(size(matrix, t), sum(plain_web(matrix, t).values()))


class Numbers(unittest.TestCase):
    def check(self, matrix, t, wanted):
        for way in WAYS:
            self.assertEqual(way(matrix, t), wanted, (way, matrix, t))

    def test_by_hand(self):
        self.check(plain_matrix("A1"), (0,), (((0,), 1),))
        self.check(plain_matrix("A1"), (5,), (((1,), 1), ((3,), 1), ((5,), 1)))
        self.check(plain_matrix("A2"), (1, 1), (((0, 0), 2), ((1, 1), 1)))
        self.check(plain_matrix("A2"), (2, 2),
                   (((0, 0), 3), ((0, 3), 1), ((1, 1), 2), ((2, 2), 1), ((3, 0), 1)))
        self.check(plain_matrix("B2"), (1, 0), (((0, 0), 1), ((1, 0), 1)))
        self.check(plain_matrix("B2"), (1, 1), (((0, 1), 2), ((1, 1), 1)))
        self.check(plain_matrix("G2"), (0, 1), (((0, 0), 2), ((0, 1), 1), ((1, 0), 1)))
        self.check(plain_matrix("D4"), (0, 1, 0, 0), (((0, 0, 0, 0), 4), ((0, 1, 0, 0), 1)))
        self.check(plain_matrix("F4"), (0, 0, 0, 1), (((0, 0, 0, 0), 2), ((0, 0, 0, 1), 1)))
        self.check(plain_matrix("F4"), (1, 0, 0, 0),
                   (((0, 0, 0, 0), 4), ((0, 0, 0, 1), 1), ((1, 0, 0, 0), 1)))
        self.check(plain_matrix("A1+A2"), (2, 1, 1),
                   (((0, 0, 0), 2), ((0, 1, 1), 1), ((2, 0, 0), 2), ((2, 1, 1), 1)))

    def test_against_a_division(self):
        for matrix, t in listed_webs(130):
            self.check(matrix, t, plain_numbers(matrix, t))

    def test_one_way_as_the_others_in_greater_webs(self):
        for matrix, t in listed_webs(600):
            self.check(matrix, t, numbers_by_cuts(matrix, t))

    def test_every_listing(self):
        for name in ALL_NAMES:
            matrix = plain_matrix(name)
            top = max(tops_up_to(matrix, 30))
            for listing in permutations(range(len(matrix))):
                wanted = sorted((listed_anew(v, listing), n) for v, n in plain_numbers(matrix, top))
                self.check(plain_listed(matrix, listing), listed_anew(top, listing), tuple(wanted))

    def test_the_names_a_against_tableaux(self):
        for name, tops in WEBS:
            if name in ("A1", "A2", "A3", "A4"):
                matrix = plain_matrix(name)
                for t in tops:
                    shape = shape_of(t)
                    wanted = []
                    for v in plain_under(matrix, t):
                        content = shape_of(v)
                        more, rest = divmod(sum(shape) - sum(content), len(shape))
                        self.assertEqual(rest, 0)
                        wanted.append((v, tableaux(shape, tuple(entry + more for entry in content))))
                    self.check(matrix, t, tuple(sorted(wanted)))

    def test_form(self):
        for matrix, t in listed_webs(200):
            for way in WAYS:
                told = way(matrix, t)
                self.assertEqual(tuple(sorted(told)), told)
                self.assertEqual(dict(told)[t], 1)
                self.assertEqual(sorted(v for v, _ in told), sorted(plain_under(matrix, t)))
                self.assertTrue(all(n >= 1 for _, n in told))

    def test_sum_over_the_orbits(self):
        for matrix, t in listed_webs(600):
            total = sum(n * len(self.orbit(matrix, v)) for v, n in numbers_by_strings(matrix, t))
            self.assertEqual(total, size(matrix, t))

    def orbit(self, matrix, v):
        """Moved as (1, .., 1) is moved, so that no weight of the orbit is left out."""
        reached = {v}
        ahead = [v]
        while ahead:
            w = ahead.pop()
            for i in range(len(matrix)):
                other = plain_sum(w, matrix[i], -w[i])
                if other not in reached:
                    reached.add(other)
                    ahead.append(other)
        return reached

    def test_the_alternating_sums(self):
        for name, t in (("B3", (1, 1, 0)), ("C3", (2, 0, 1)), ("D4", (1, 0, 1, 0)), ("G2", (2, 1))):
            matrix = plain_matrix(name)
            u = (1,) * len(matrix)
            for way in WAYS:
                total = {}
                for v, n in way(matrix, t):
                    for w in self.orbit(matrix, v):
                        for other, sign in plain_signs(matrix, u).items():
                            place = plain_sum(w, other)
                            total[place] = total.get(place, 0) + n * sign
                wanted = plain_signs(matrix, plain_sum(t, u))
                self.assertEqual({v: n for v, n in total.items() if n != 0}, wanted)


class Limit(unittest.TestCase):
    def test_just_600_points(self):
        for name, t in FULL:
            matrix = plain_matrix(name)
            self.assertEqual(size(matrix, t), 600)
            for way in WAYS:
                self.assertEqual(way(matrix, t), plain_numbers(matrix, t))
        self.assertEqual(numbers_by_signs(plain_matrix("A1"), (599,)), tuple(((n,), 1) for n in range(1, 600, 2)))

    def test_more_points(self):
        for name, t in OVER:
            matrix = plain_matrix(name)
            self.assertGreater(size(matrix, t), 600)
            for way in WAYS:
                with self.assertRaises(TooMany) as caught:
                    way(matrix, t)
                self.assertEqual(caught.exception.limit, 600)


class PartitionNumber(unittest.TestCase):
    def test_zeros(self):
        for name, matrix in all_matrices():
            self.assertEqual(partition_number(matrix, (0,) * len(matrix)), 1)

    def test_below_zero(self):
        self.assertEqual(partition_number(plain_matrix("A1"), (-1,)), 0)
        self.assertEqual(partition_number(plain_matrix("A2"), (-1, 5)), 0)
        self.assertEqual(partition_number(plain_matrix("A2"), (12, -1)), 0)
        self.assertEqual(partition_number(plain_matrix("F4"), (3, 3, -10 ** 40, 3)), 0)

    def test_known_values(self):
        for k in range(13):
            self.assertEqual(partition_number(plain_matrix("A1"), (k,)), 1)
            for m in range(13):
                self.assertEqual(partition_number(plain_matrix("A1+A1"), (k, m)), 1)
                self.assertEqual(partition_number(plain_matrix("A2"), (k, m)), min(k, m) + 1)
        values = {
            (1, 0): 1, (0, 1): 1, (1, 1): 2, (1, 2): 3, (2, 1): 2, (2, 2): 4, (1, 5): 3, (2, 3): 5, (2, 4): 6,
            (5, 1): 2, (12, 0): 1,
        }
        for c, many in values.items():
            self.assertEqual(partition_number(plain_matrix("B2"), c), many)
            self.assertEqual(partition_number(((2, -1), (-2, 2)), c[::-1]), many)

    def test_roots_in_small_sums(self):
        # (1, 1, 1) is written by three, two or one root: one way for each set of places to part it.
        self.assertEqual(partition_number(plain_matrix("A3"), (1, 1, 1)), 4)
        self.assertEqual(partition_number(plain_matrix("A4"), (1, 1, 1, 1)), 8)
        self.assertEqual(partition_number(plain_matrix("G2"), (1, 1)), 2)

    def test_against_all_ways_tried_out(self):
        for name, matrix in all_matrices():
            roots = plain_roots(matrix)
            for c in ((1, 2, 1, 1), (2, 1, 3, 2), (3, 0, 2, 4), (2, 3, 4, 2)):
                c = c[:len(matrix)]
                self.assertEqual(partition_number(matrix, c), plain_ways(roots, c))

    def test_greater_entries(self):
        for name in ("A2", "B2", "G2", "A3", "B3", "C3"):
            matrix = plain_matrix(name)
            for c in ((12, 12, 5), (7, 12, 12), (11, 6, 8)):
                c = c[:len(matrix)]
                self.assertEqual(partition_number(matrix, c), plain_ways(plain_roots(matrix), c))

    def test_limit(self):
        for name in ALL_NAMES:
            rank = len(plain_matrix(name))
            for i, entry in product(range(rank), (13, 14, 10 ** 40)):
                for other in (0, 12, -1):
                    c = tuple(entry if j == i else other for j in range(rank))
                    with self.assertRaises(TooMany) as caught:
                        partition_number(plain_matrix(name), c)
                    self.assertEqual(caught.exception.limit, 12)

    def test_twelve_is_let(self):
        for name in ALL_NAMES:
            rank = len(plain_matrix(name))
            self.assertGreaterEqual(partition_number(plain_matrix(name), (12,) * rank), 1)
        self.assertEqual(partition_number(plain_matrix("A1+A1+A1+A1"), (12, 12, 12, 12)), 1)

    def test_no_limit_within_the_numbers(self):
        self.assertEqual(numbers_by_partitions(plain_matrix("A1"), (40,)), tuple(((n,), 1) for n in range(0, 41, 2)))
        self.assertEqual(numbers_by_partitions(plain_matrix("A2"), (33, 0)),
                         numbers_by_strings(plain_matrix("A2"), (33, 0)))
