"""Promises [17] and [18]."""

import unittest
from itertools import permutations, product

from tests.plain_webs import (
    WEBS, listed_anew, listed_webs, plain_against, plain_numbers, plain_roots, plain_size, plain_steps,
    plain_sum, plain_web, tops_up_to,
)
from tests.samples import (
    ALL_NAMES, action, all_listed, by_length, first_words, grown_words, left_out, plain_listed,
    plain_matrix, plain_reflected,
)
from weightwebs.cuts import all_numbers, cut_down, cut_web, depth_row, numbers_by_cuts
from weightwebs.errors import TooMany
from weightwebs.groups import longest_word
from weightwebs.numbers import numbers_by_strings


def times(row, other):
    found = [0] * (len(row) + len(other) - 1)
    for (j, a), (k, b) in product(enumerate(row), enumerate(other)):
        found[j + k] += a * b
    return found


def divided(row, other):
    """The quotient of two polynomials, the last coefficient of the divisor being 1."""
    row = list(row)
    found = [0] * (len(row) - len(other) + 1)
    for k in reversed(range(len(found))):
        found[k] = row[k + len(other) - 1]
        for m, entry in enumerate(other):
            row[k + m] -= found[k] * entry
    assert not any(row)
    return found


def plain_depth_row(matrix, t):
    u = (1,) * len(matrix)
    row = [1]
    for c in plain_roots(matrix):
        row = times(row, [1] * int(plain_against(matrix, plain_sum(t, u), c)))
    for c in plain_roots(matrix):
        row = divided(row, [1] * int(plain_against(matrix, u, c)))
    return tuple(row)


class CutDown(unittest.TestCase):
    def test_entry_above_zero(self):
        matrix = plain_matrix("A2")
        self.assertEqual(cut_down(matrix, (((2, 1), 3),), 0), (((-2, 3), 3), ((0, 2), 3), ((2, 1), 3)))
        self.assertEqual(cut_down(matrix, (((2, 1), 3),), 1), (((2, 1), 3), ((3, -1), 3)))
        self.assertEqual(cut_down(plain_matrix("G2"), (((1, 1), -1),), 1), (((1, 1), -1), ((4, -1), -1)))

    def test_entry_zero(self):
        self.assertEqual(cut_down(plain_matrix("A2"), (((0, 5), -4),), 0), (((0, 5), -4),))

    def test_entry_just_below_zero(self):
        self.assertEqual(cut_down(plain_matrix("A2"), (((-1, 5), 4),), 0), ())
        self.assertEqual(cut_down(plain_matrix("A1"), (((-1,), 1), ((0,), 2)), 0), (((0,), 2),))

    def test_entry_farther_below_zero(self):
        matrix = plain_matrix("A2")
        self.assertEqual(cut_down(matrix, (((-2, 5), 4),), 0), (((0, 4), -4),))
        self.assertEqual(cut_down(matrix, (((-4, 0), -1),), 0), (((-2, -1), 1), ((0, -2), 1), ((2, -3), 1)))
        self.assertEqual(cut_down(plain_matrix("B2"), (((0, -3), 2),), 1), (((-1, -1), -2), ((-2, 1), -2))[::-1])

    def test_great_entries(self):
        self.assertEqual(cut_down(plain_matrix("A1"), (((60,), 5),), 0), tuple(((k,), 5) for k in range(-60, 61, 2)))
        self.assertEqual(cut_down(plain_matrix("A1"), (((-60,), 5),), 0),
                         tuple(((k,), -5) for k in range(-58, 59, 2)))

    def test_one_weight_is_added_up(self):
        matrix = plain_matrix("A1")
        self.assertEqual(cut_down(matrix, (((0,), 2), ((2,), 3)), 0), (((-2,), 3), ((0,), 5), ((2,), 3)))
        self.assertEqual(cut_down(matrix, (((-3,), 1), ((1,), 3)), 0), (((-1,), 2), ((1,), 2)))

    def test_what_adds_up_to_zero_is_left_out(self):
        matrix = plain_matrix("A1")
        self.assertEqual(cut_down(matrix, (((-2,), 3), ((0,), 3)), 0), ())
        self.assertEqual(cut_down(matrix, (((0,), -1), ((2,), 1)), 0), (((-2,), 1), ((2,), 1)))
        self.assertEqual(cut_down(plain_matrix("A2"), (((-3, 4), 1), ((1, 2), 1)), 0), ())

    def test_the_empty_sum(self):
        for name in ALL_NAMES:
            matrix = plain_matrix(name)
            for i in range(len(matrix)):
                self.assertEqual(cut_down(matrix, (), i), ())

    def test_twice_is_once(self):
        sums = tuple(((a, b), a + 2 * b + 1) for a in range(-5, 6) for b in (-2, 0, 3) if a + 2 * b + 1 != 0)
        for name in ("A1+A1", "A2", "B2", "G2"):
            for matrix, i in product(all_listed(name), (0, 1)):
                once = cut_down(matrix, sums, i)
                self.assertNotEqual(once, sums)
                self.assertEqual(cut_down(matrix, once, i), once)

    def test_ascending(self):
        sums = (((-7, 4), 1), ((0, 0), 2), ((5, -9), -3))
        for i in (0, 1):
            told = cut_down(plain_matrix("G2"), sums, i)
            self.assertEqual(told, tuple(sorted(told)))
            self.assertEqual(len({v for v, _ in told}), len(told))
            self.assertNotIn(0, [n for _, n in told])

    def test_quotient_of_differences(self):
        # What comes of one weight, times 1 less the simple root taken off, is told by two weights.
        for name in ("A2", "B2", "G2", "A3"):
            matrix = plain_matrix(name)
            for i, entry in product(range(len(matrix)), range(-6, 7)):
                v = tuple(entry if j == i else 2 - j for j in range(len(matrix)))
                total = {}
                for w, n in cut_down(matrix, ((v, 1),), i):
                    total[w] = total.get(w, 0) + n
                    lower = plain_sum(w, matrix[i], -1)
                    total[lower] = total.get(lower, 0) - n
                wanted = {v: 1}
                other = plain_sum(plain_reflected(matrix, v, i), matrix[i], -1)
                wanted[other] = wanted.get(other, 0) - 1
                self.assertEqual({w: n for w, n in total.items() if n}, {w: n for w, n in wanted.items() if n})


class CutWeb(unittest.TestCase):
    def test_by_hand(self):
        matrix = plain_matrix("A2")
        self.assertEqual(cut_web(matrix, (1, 1), (0,)), (((-1, 2), 1), ((1, 1), 1)))
        self.assertEqual(cut_web(matrix, (1, 1), (1, 0)),
                         (((-1, 2), 1), ((0, 0), 1), ((1, -2), 1), ((1, 1), 1), ((2, -1), 1)))
        self.assertEqual(cut_web(matrix, (1, 0), (0, 1)), (((-1, 1), 1), ((1, 0), 1)))
        self.assertEqual(cut_web(matrix, (1, 0), (1, 0)), (((-1, 1), 1), ((0, -1), 1), ((1, 0), 1)))

    def test_empty_word(self):
        for matrix, t in listed_webs(600):
            self.assertEqual(cut_web(matrix, t, ()), ((t, 1),))

    def test_words_that_are_not_least(self):
        matrix = plain_matrix("A2")
        for t in ((1, 1), (2, 0), (1, 2)):
            self.assertEqual(cut_web(matrix, t, (0, 0)), cut_web(matrix, t, (0,)))
            self.assertEqual(cut_web(matrix, t, (0, 1, 1, 1)), cut_web(matrix, t, (0, 1)))
            self.assertEqual(cut_web(matrix, t, (0, 1, 1, 0)), cut_web(matrix, t, (0, 1, 0)))
            self.assertEqual(cut_web(matrix, t, (1, 0) * 5), cut_web(matrix, t, (0, 1, 0)))

    def test_cuts_in_sequence(self):
        for name, t in (("B2", (1, 2)), ("G2", (1, 1)), ("A3", (1, 1, 0)), ("A1+B2", (1, 1, 1))):
            matrix = plain_matrix(name)
            for word in product(range(len(matrix)), repeat=4):
                sums = ((t, 1),)
                for i in word[::-1]:
                    sums = cut_down(matrix, sums, i)
                self.assertEqual(cut_web(matrix, t, word), sums)

    def test_like_least_words(self):
        for name, t in (("A2", (2, 1)), ("B2", (1, 1)), ("G2", (0, 1)), ("A3", (1, 0, 1)), ("A1+A2", (1, 1, 0))):
            matrix = plain_matrix(name)
            found = first_words(matrix)
            for k in range(len(longest_word(matrix)) + 1):
                for word in product(range(len(matrix)), repeat=k):
                    first = found[action(matrix, word)]
                    if len(first) == k:
                        self.assertEqual(cut_web(matrix, t, word), cut_web(matrix, t, first))

    def test_numbers_along_words_below(self):
        for name, t in (("A2", (2, 1)), ("B2", (1, 1)), ("G2", (1, 1)), ("A3", (1, 0, 1)), ("B3", (1, 0, 1))):
            matrix = plain_matrix(name)
            found = grown_words(matrix)
            for other in by_length(found.values())[::3]:
                greater = dict(cut_web(matrix, t, other))
                self.assertTrue(all(n > 0 for n in greater.values()))
                for word in {found[action(matrix, part)] for part in left_out(other)}:
                    for v, n in cut_web(matrix, t, word):
                        self.assertLessEqual(n, greater.get(v, 0))

    def test_weights_of_the_part_by_the_corners(self):
        # The lowest weight of the part along a least word is the moved t.
        matrix = plain_matrix("B3")
        for word in grown_words(matrix).values():
            told = dict(cut_web(matrix, (1, 1, 1), word))
            moved = (1, 1, 1)
            for i in word[::-1]:
                moved = plain_reflected(matrix, moved, i)
            self.assertEqual(told[moved], 1)
            self.assertEqual(max(told, key=lambda v: sum(plain_steps(matrix, plain_sum((1, 1, 1), v, -1)))), moved)


class NumbersByCuts(unittest.TestCase):
    def test_by_hand(self):
        self.assertEqual(numbers_by_cuts(plain_matrix("A1"), (4,)), (((0,), 1), ((2,), 1), ((4,), 1)))
        self.assertEqual(numbers_by_cuts(plain_matrix("A2"), (1, 1)), (((0, 0), 2), ((1, 1), 1)))
        self.assertEqual(numbers_by_cuts(plain_matrix("F4"), (0, 0, 0, 1)),
                         (((0, 0, 0, 0), 2), ((0, 0, 0, 1), 1)))

    def test_against_a_division(self):
        for matrix, t in listed_webs(130):
            self.assertEqual(numbers_by_cuts(matrix, t), plain_numbers(matrix, t))

    def test_as_the_other_ways(self):
        for matrix, t in listed_webs(600):
            self.assertEqual(numbers_by_cuts(matrix, t), numbers_by_strings(matrix, t))


class AllNumbers(unittest.TestCase):
    def test_by_hand(self):
        self.assertEqual(all_numbers(plain_matrix("A1"), (2,)), (((-2,), 1), ((0,), 1), ((2,), 1)))
        self.assertEqual(all_numbers(plain_matrix("A2"), (1, 0)), (((-1, 1), 1), ((0, -1), 1), ((1, 0), 1)))
        self.assertEqual(
            all_numbers(plain_matrix("A2"), (1, 1)),
            (((-2, 1), 1), ((-1, -1), 1), ((-1, 2), 1), ((0, 0), 2), ((1, -2), 1), ((1, 1), 1), ((2, -1), 1)),
        )
        self.assertEqual(all_numbers(plain_matrix("C3"), (0, 0, 0)), (((0, 0, 0), 1),))

    def test_against_a_division(self):
        for matrix, t in listed_webs(130):
            self.assertEqual(all_numbers(matrix, t), tuple(sorted(plain_web(matrix, t).items())))

    def test_all_weights_of_the_orbits_with_one_number(self):
        for matrix, t in listed_webs(600):
            told = dict(all_numbers(matrix, t))
            self.assertEqual({v: n for v, n in told.items() if min(v) >= 0}, dict(numbers_by_strings(matrix, t)))
            for v, n in told.items():
                for i in range(len(matrix)):
                    self.assertEqual(told[plain_reflected(matrix, v, i)], n)
            self.assertEqual(sum(told.values()), plain_size(matrix, t))

    def test_ascending(self):
        for matrix, t in listed_webs(100):
            told = all_numbers(matrix, t)
            self.assertEqual(tuple(sorted(told)), told)


class DepthRow(unittest.TestCase):
    def test_by_hand(self):
        self.assertEqual(depth_row(plain_matrix("A1"), (0,)), (1,))
        self.assertEqual(depth_row(plain_matrix("A1"), (3,)), (1, 1, 1, 1))
        self.assertEqual(depth_row(plain_matrix("A2"), (1, 0)), (1, 1, 1))
        self.assertEqual(depth_row(plain_matrix("A2"), (1, 1)), (1, 2, 2, 2, 1))
        self.assertEqual(depth_row(plain_matrix("B2"), (0, 1)), (1, 1, 1, 1))
        self.assertEqual(depth_row(plain_matrix("A1+A1"), (1, 2)), (1, 2, 2, 1))

    def test_product_and_quotient_of_polynomials(self):
        for matrix, t in listed_webs(600):
            self.assertEqual(depth_row(matrix, t), plain_depth_row(matrix, t))

    def test_every_listing(self):
        for name in ALL_NAMES:
            matrix = plain_matrix(name)
            top = max(tops_up_to(matrix, 30))
            wanted = plain_depth_row(matrix, top)
            for listing in permutations(range(len(matrix))):
                self.assertEqual(depth_row(plain_listed(matrix, listing), listed_anew(top, listing)), wanted)

    def test_the_same_backward_and_rising(self):
        for matrix, t in listed_webs(600):
            row = depth_row(matrix, t)
            self.assertEqual(row, row[::-1])
            half = row[:(len(row) + 1) // 2]
            self.assertEqual(list(half), sorted(half))


class Limit(unittest.TestCase):
    def test_just_600_points(self):
        matrix = plain_matrix("A1+A1")
        self.assertEqual(len(all_numbers(matrix, (23, 24))), 600)
        self.assertEqual(len(numbers_by_cuts(matrix, (23, 24))), 156)
        self.assertEqual(sum(depth_row(matrix, (23, 24))), 600)
        self.assertEqual(cut_web(matrix, (23, 24), ()), (((23, 24), 1),))
        self.assertEqual(all_numbers(plain_matrix("A1"), (599,)), tuple(((n,), 1) for n in range(-599, 600, 2)))

    def check_raises(self, call):
        with self.assertRaises(TooMany) as caught:
            call()
        self.assertEqual(caught.exception.limit, 600)

    def test_more_points(self):
        for name, t in (("A1", (600,)), ("A1+A1", (600, 0)), ("A2", (34, 0)), ("F4", (0, 1, 0, 0)),
                        ("D4", (10 ** 30, 0, 10 ** 40, 2))):
            matrix = plain_matrix(name)
            self.assertGreater(plain_size(matrix, t), 600)
            for word in ((), (0,), (0, 0), longest_word(matrix)):
                self.check_raises(lambda: cut_web(matrix, t, word))
            self.check_raises(lambda: numbers_by_cuts(matrix, t))
            self.check_raises(lambda: all_numbers(matrix, t))
            self.check_raises(lambda: depth_row(matrix, t))

    def test_samples_have_every_name_and_entry(self):
        self.assertLessEqual({"A1", "A2", "A3", "A4", "B2", "B3", "B4", "C3", "C4", "D4", "F4", "G2"},
                             {name for name, _ in WEBS})
