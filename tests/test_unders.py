"""Promise [12]."""

import unittest
from itertools import product

from tests.plain_webs import plain_steps, plain_sum, plain_under, plain_weight
from tests.samples import ALL_NAMES, all_matrices, plain_matrix, plain_reflected
from weightwebs.errors import TooMany
from weightwebs.unders import is_under, steps_between, under

STEPS = ((0, 0, 0, 0), (1, 0, 2, 0), (-1, 3, 0, -2), (5, -7, 11, 13), (10 ** 30, -10 ** 31, 3, 10 ** 29 + 1))

# Weights small enough for a plain search.
TOPS = {
    1: ((0,), (1,), (2,), (9,)),
    2: ((0, 0), (1, 0), (0, 1), (3, 2), (0, 6), (7, 1), (4, 4)),
    3: ((0, 0, 0), (1, 0, 0), (0, 0, 1), (1, 2, 1), (3, 0, 2)),
    4: ((0, 0, 0, 0), (1, 0, 0, 0), (0, 0, 0, 1), (0, 1, 0, 0), (1, 1, 0, 1), (0, 0, 2, 0)),
}


class StepsBetween(unittest.TestCase):
    def test_by_hand(self):
        matrix = plain_matrix("A2")
        self.assertEqual(steps_between(matrix, (0, 0), (1, 1)), (1, 1))
        self.assertEqual(steps_between(matrix, (-1, 0), (1, -1)), (1, 0))
        self.assertEqual(steps_between(matrix, (2, -1), (-1, 2)), (-1, 1))
        self.assertIsNone(steps_between(matrix, (0, 0), (1, 0)))
        self.assertIsNone(steps_between(plain_matrix("A1"), (1,), (2,)))
        self.assertEqual(steps_between(plain_matrix("A1"), (3,), (-5,)), (-4,))
        self.assertEqual(steps_between(plain_matrix("B2"), (-1, 2), (1, 0)), (1, 0))
        self.assertIsNone(steps_between(plain_matrix("A1+A1"), (0, 0), (2, 1)))
        self.assertIsNone(steps_between(plain_matrix("A1+A1"), (0, 0), (1, 2)))
        self.assertEqual(steps_between(plain_matrix("G2"), (0, 0), (0, 1)), (3, 2))

    def test_steps_are_found_again_both_ways(self):
        for name, matrix in all_matrices():
            rank = len(matrix)
            for steps, start in product(STEPS, ((0, 0, 0, 0), (3, -1, 10 ** 25, 8))):
                steps, start = steps[:rank], start[:rank]
                end = plain_sum(start, plain_weight(matrix, steps))
                self.assertEqual(steps_between(matrix, start, end), steps)
                self.assertEqual(steps_between(matrix, end, start), tuple(-step for step in steps))

    def test_equal_weights(self):
        for name, matrix in all_matrices():
            v = (3, -2, 0, 10 ** 40)[:len(matrix)]
            self.assertEqual(steps_between(matrix, v, v), (0,) * len(matrix))

    def test_against_ratios(self):
        for name in ALL_NAMES:
            matrix = plain_matrix(name)
            for v in product((-3, -1, 0, 1, 2), repeat=len(matrix)):
                steps = plain_steps(matrix, v)
                wanted = tuple(int(s) for s in steps) if all(s.denominator == 1 for s in steps) else None
                self.assertEqual(steps_between(matrix, (0,) * len(matrix), v), wanted)

    def test_no_steps_between_great_weights(self):
        self.assertIsNone(steps_between(plain_matrix("A1"), (10 ** 40,), (1,)))
        self.assertIsNone(steps_between(plain_matrix("A4"), (10 ** 40, 0, 0, 1), (0, 0, 0, 0)))
        self.assertIsNone(steps_between(plain_matrix("C4"), (0, 0, 1, 10 ** 40), (0, 0, 0, 0)))


class IsUnder(unittest.TestCase):
    def test_by_hand(self):
        matrix = plain_matrix("A2")
        self.assertIs(is_under(matrix, (0, 0), (1, 1)), True)
        self.assertIs(is_under(matrix, (1, 1), (0, 0)), False)
        self.assertIs(is_under(matrix, (1, 1), (1, 1)), True)
        self.assertIs(is_under(matrix, (0, 0), (1, 0)), False)
        self.assertIs(is_under(matrix, (-2, 1), (0, 0)), True)

    def test_one_step_below_zero(self):
        for name, matrix in all_matrices():
            rank = len(matrix)
            for i in range(rank):
                steps = tuple(-1 if j == i else 4 for j in range(rank))
                a = (5, 0, -3, 2)[:rank]
                b = plain_sum(a, plain_weight(matrix, steps))
                self.assertIs(is_under(matrix, a, b), False)
                self.assertIs(is_under(matrix, a, plain_sum(b, matrix[i])), True)

    def test_great_weights(self):
        matrix = plain_matrix("F4")
        self.assertIs(is_under(matrix, (0, 0, 0, 0), (10 ** 50, 10 ** 51, 0, 7)), True)
        self.assertIs(is_under(matrix, (10 ** 50, 10 ** 51, 0, 7), (0, 0, 0, 0)), False)


class Under(unittest.TestCase):
    def test_by_hand(self):
        self.assertEqual(under(plain_matrix("A1"), (4,)), ((4,), (2,), (0,)))
        self.assertEqual(under(plain_matrix("A2"), (1, 1)), ((1, 1), (0, 0)))
        self.assertEqual(under(plain_matrix("A2"), (3, 3)),
                         ((3, 3), (1, 4), (4, 1), (2, 2), (0, 3), (3, 0), (1, 1), (0, 0)))
        self.assertEqual(under(plain_matrix("A1+A1"), (2, 3)), ((2, 3), (0, 3), (2, 1), (0, 1)))
        self.assertEqual(under(plain_matrix("B2"), (1, 0)), ((1, 0), (0, 0)))
        self.assertEqual(under(plain_matrix("B2"), (0, 1)), ((0, 1),))

    def test_against_a_search(self):
        for name, matrix in all_matrices():
            for t in TOPS[len(matrix)]:
                self.assertEqual(under(matrix, t), plain_under(matrix, t))

    def test_all_weights_of_their_orbits_lie_under(self):
        for name in ("A2", "B2", "G2", "A3", "B3", "C3", "D4", "F4", "A1+B2"):
            matrix = plain_matrix(name)
            for t in TOPS[len(matrix)][-2:]:
                for v in under(matrix, t):
                    reached, ahead = {v}, [v]
                    while ahead:
                        w = ahead.pop()
                        self.assertIs(is_under(matrix, w, t), True)
                        for i in range(len(matrix)):
                            other = plain_reflected(matrix, w, i)
                            if other not in reached:
                                reached.add(other)
                                ahead.append(other)


class Limit(unittest.TestCase):
    def check_raises(self, matrix, t):
        with self.assertRaises(TooMany) as caught:
            under(matrix, t)
        self.assertEqual(caught.exception.limit, 400)

    def test_rank_one(self):
        matrix = plain_matrix("A1")
        self.assertEqual(under(matrix, (798,)), tuple((n,) for n in range(798, -1, -2)))
        self.assertEqual(len(under(matrix, (799,))), 400)
        self.check_raises(matrix, (800,))
        self.check_raises(matrix, (801,))

    def test_several_pieces(self):
        matrix = plain_matrix("A1+A1")
        self.assertEqual(len(under(matrix, (38, 39))), 400)
        self.assertEqual(len(under(matrix, (798, 1))), 400)
        self.check_raises(matrix, (800, 0))
        self.check_raises(matrix, (0, 800))
        self.check_raises(matrix, (39, 40))

    def test_just_where_a_search_finds_more(self):
        for name, entry in (("A2", 0), ("A2", 1), ("B2", 0), ("B2", 1), ("G2", 0), ("A3", 1)):
            matrix = plain_matrix(name)
            refused = let = 0
            for k in range(16, 80, 2):
                t = tuple(k if i == entry else 0 for i in range(len(matrix)))
                many = len(plain_under(matrix, t))
                if many > 400:
                    self.check_raises(matrix, t)
                    refused += 1
                    break
                self.assertEqual(len(under(matrix, t)), many)
                let += 1
            self.assertTrue(refused and let, name)

    def test_very_great_weights(self):
        for name in ALL_NAMES:
            matrix = plain_matrix(name)
            self.check_raises(matrix, (10 ** 40, 10 ** 30, 0, 7)[:len(matrix)])
            self.check_raises(matrix, (0, 3, 1, 10 ** 40)[-len(matrix):])
