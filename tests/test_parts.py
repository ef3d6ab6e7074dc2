"""Promises [29] and [30]."""

import unittest
from itertools import product

from tests.plain_paths import plain_crystal
from tests.plain_webs import (
    listed_anew, listed_webs, plain_size, plain_sum, plain_weight, plain_web, spread, tops_up_to,
)
from tests.plain_words import plain_before
from tests.samples import (
    ALL_NAMES, action, first_words, grown_words, left_out, lots, plain_listed, plain_matrix,
)
from tests.test_crystals import EIGHT, FIVE, LINE, ONE, SIX, THREE, ZERO
from tests.test_webs import FULL, OVER
from weightwebs.cuts import all_numbers, cut_web
from weightwebs.errors import TooMany
from weightwebs.groups import longest_word
from weightwebs.parts import cut_points, part_matrix, parts_by_peeling, parts_by_points, seen
from weightwebs.webs import crystal


class PartMatrix(unittest.TestCase):
    def test_by_hand(self):
        b4 = plain_matrix("B4")
        self.assertEqual(part_matrix(b4, (2, 3)), ((2, -2), (-1, 2)))
        self.assertEqual(part_matrix(b4, (0, 2, 3)), ((2, 0, 0), (0, 2, -2), (0, -1, 2)))
        self.assertEqual(part_matrix(plain_matrix("D4"), (0, 2, 3)), ((2, 0, 0), (0, 2, 0), (0, 0, 2)))
        self.assertEqual(part_matrix(plain_matrix("F4"), (1, 2)), plain_matrix("B2"))
        self.assertEqual(part_matrix(plain_matrix("G2"), (1,)), ((2,),))

    def test_every_lot(self):
        for name in ALL_NAMES:
            matrix = plain_matrix(name)
            for lot in lots(len(matrix)):
                if lot:
                    self.assertEqual(part_matrix(matrix, lot), plain_listed(matrix, lot))
            self.assertEqual(part_matrix(matrix, tuple(range(len(matrix)))), matrix)


class Seen(unittest.TestCase):
    def test_every_lot(self):
        for rank in range(1, 5):
            v = (7, -2, 0, 10 ** 20)[:rank]
            for lot in lots(rank):
                self.assertEqual(seen(v, lot), listed_anew(v, lot))

    def test_by_hand(self):
        self.assertEqual(seen((5, 6, 7), (0, 2)), (5, 7))
        self.assertEqual(seen((5, 6, 7), ()), ())


def plain_parts_by_points(matrix, t, lot):
    told = plain_crystal(matrix, t)
    weights = [v for p, v in enumerate(told[0]) if all(plain_before(told, p, i) < 0 for i in lot)]
    return tuple((v, weights.count(v)) for v in sorted(set(weights)))


class Parts(unittest.TestCase):
    def check(self, matrix, t, lot, wanted):
        self.assertEqual(parts_by_points(matrix, t, lot), wanted)
        self.assertEqual(parts_by_peeling(matrix, t, lot), wanted)

    def test_by_hand(self):
        a2 = plain_matrix("A2")
        self.check(a2, (1, 1), (0,), (((0, 0), 1), ((1, -2), 1), ((1, 1), 1), ((2, -1), 1)))
        self.check(a2, (1, 1), (1,), (((-2, 1), 1), ((-1, 2), 1), ((0, 0), 1), ((1, 1), 1)))
        self.check(plain_matrix("B2"), (1, 0), (0,), (((0, 0), 1), ((1, -2), 1), ((1, 0), 1)))
        self.check(plain_matrix("B2"), (1, 0), (1,), (((-1, 0), 1), ((-1, 2), 1), ((1, 0), 1)))
        self.check(plain_matrix("A1+A1"), (1, 2), (0,), (((1, -2), 1), ((1, 0), 1), ((1, 2), 1)))
        self.check(plain_matrix("A3"), (0, 1, 0), (0, 1), (((0, 1, 0), 1), ((1, 0, -1), 1)))
        self.check(plain_matrix("A3"), (0, 1, 0), (0, 2), (((0, -1, 0), 1), ((0, 1, 0), 1), ((1, -1, 1), 1)))

    def test_no_row_and_all_rows(self):
        for matrix, t in listed_webs(400):
            self.check(matrix, t, tuple(range(len(matrix))), ((t, 1),))
            self.check(matrix, t, (), all_numbers(matrix, t))
        for matrix, t in listed_webs(60):
            self.assertEqual(parts_by_points(matrix, t, ()), tuple(sorted(plain_web(matrix, t).items())))

    def test_every_lot(self):
        for matrix, t in listed_webs(110):
            for lot in lots(len(matrix)):
                self.check(matrix, t, lot, plain_parts_by_points(matrix, t, lot))

    def test_every_name(self):
        for name in ALL_NAMES:
            matrix = plain_matrix(name)
            for t in tops_up_to(matrix, 60)[-2:]:
                for lot in lots(len(matrix)):
                    self.check(matrix, t, lot, plain_parts_by_points(matrix, t, lot))

    def test_greater_webs(self):
        for matrix, t in listed_webs(400):
            for lot in lots(len(matrix)):
                found = parts_by_points(matrix, t, lot)
                self.assertEqual(parts_by_peeling(matrix, t, lot), found)
                if lot:
                    part = plain_listed(matrix, lot)
                    sizes = [n * plain_size(part, listed_anew(v, lot)) for v, n in found]
                    self.assertEqual(sum(sizes), plain_size(matrix, t))

    def test_the_numbers_add_up(self):
        for matrix, t in listed_webs(110):
            for lot in lots(len(matrix))[1:]:
                part = plain_listed(matrix, lot)
                found = {}
                for v, n in parts_by_peeling(matrix, t, lot):
                    top = listed_anew(v, lot)
                    steps = plain_steps_below(part, top)
                    for w, many in plain_web(part, top).items():
                        c = [0] * len(matrix)
                        for k, step in zip(lot, steps[w]):
                            c[k] = step
                        place = plain_sum(v, plain_weight(matrix, c), -1)
                        found[place] = found.get(place, 0) + n * many
                self.assertEqual(found, plain_web(matrix, t))

    def check_raises(self, call, limit, *arguments):
        with self.assertRaises(TooMany) as caught:
            call(*arguments)
        self.assertEqual(caught.exception.limit, limit)

    def test_just_400_points(self):
        for name, t in FULL:
            matrix = plain_matrix(name)
            for lot in lots(len(matrix))[::3]:
                self.check(matrix, t, lot, parts_by_peeling(matrix, t, lot))

    def test_more_than_400_points(self):
        for name, t in OVER:
            matrix = plain_matrix(name)
            for lot in lots(len(matrix)):
                self.check_raises(parts_by_points, 400, matrix, t, lot)

    def test_just_600(self):
        a1, a1a1 = plain_matrix("A1"), plain_matrix("A1+A1")
        self.assertEqual(parts_by_peeling(a1, (599,), (0,)), (((599,), 1),))
        self.assertEqual(len(parts_by_peeling(a1, (599,), ())), 600)
        self.assertEqual(parts_by_peeling(a1a1, (299, 1), (0,)), (((299, -1), 1), ((299, 1), 1)))
        self.assertEqual(parts_by_peeling(a1a1, (24, 23), (0, 1)), (((24, 23), 1),))
        self.assertEqual(len(parts_by_peeling(a1a1, (24, 23), (0,))), 24)

    def test_more_than_600(self):
        for name, t in (
            ("A1", (600,)), ("A1+A1", (600, 0)), ("A1+A1", (24, 24)), ("A2", (34, 0)), ("F4", (0, 1, 0, 0)),
            ("G2", (0, 10 ** 30)), ("D4", (1, 1, 1, 1)),
        ):
            matrix = plain_matrix(name)
            self.assertGreater(plain_size(matrix, t), 600)
            for lot in lots(len(matrix)):
                self.check_raises(parts_by_peeling, 600, matrix, t, lot)
                self.check_raises(parts_by_points, 400, matrix, t, lot)


def plain_steps_below(matrix, t):
    """For each weight of a web the integers that lead down to it from the topmost one."""
    found = {t: (0,) * len(matrix)}
    ahead = [t]
    while ahead:
        v = ahead.pop()
        for i, root in enumerate(matrix):
            w = plain_sum(v, root, -1)
            if w in plain_web(matrix, t) and w not in found:
                found[w] = tuple(step + (k == i) for k, step in enumerate(found[v]))
                ahead.append(w)
    return found


def plain_cut_points(told, word):
    found = {0}
    for i in word[::-1]:
        more = True
        while more:
            more = {told[1][p][i] for p in found} - found - {-1}
            found |= more
    return tuple(sorted(found))


class CutPoints(unittest.TestCase):
    def test_by_hand(self):
        self.assertEqual(cut_points(EIGHT, ()), (0,))
        self.assertEqual(cut_points(EIGHT, (0,)), (0, 1))
        self.assertEqual(cut_points(EIGHT, (1, 0)), (0, 1, 2, 3, 5))
        self.assertEqual(cut_points(EIGHT, (0, 1)), (0, 1, 2, 4, 6))
        self.assertEqual(cut_points(EIGHT, (0, 1, 0)), (0, 1, 2, 3, 4, 5, 6, 7))
        self.assertEqual(cut_points(THREE, (1,)), (0,))
        self.assertEqual(cut_points(THREE, (0, 1)), (0, 1))
        self.assertEqual(cut_points(FIVE, (1, 0)), (0, 1, 2, 3))
        self.assertEqual(cut_points(LINE, (0,)), (0, 1, 2, 3))
        self.assertEqual(cut_points(SIX, (1,)), (0, 2, 4))
        self.assertEqual(cut_points(ZERO, (0,)), (0,))

    def test_the_empty_word_and_a_longest_one(self):
        for matrix, t in listed_webs(400):
            told = crystal(matrix, t)
            self.assertEqual(cut_points(told, ()), (0,))
            self.assertEqual(cut_points(told, longest_word(matrix)), tuple(range(len(told[0]))))

    def test_weights_and_numbers(self):
        for matrix, t in listed_webs(60):
            told = crystal(matrix, t)
            for word in spread(sorted(grown_words(matrix).values()), 60):
                points = cut_points(told, word)
                self.assertEqual(points, plain_cut_points(told, word))
                weights = [told[0][p] for p in points]
                self.assertEqual(tuple((v, weights.count(v)) for v in sorted(set(weights))), cut_web(matrix, t, word))

    def test_like_least_words(self):
        for name, t in (("A2", (1, 1)), ("B2", (1, 1)), ("G2", (1, 1)), ("A3", (1, 0, 1)), ("A1+A2", (1, 1, 1))):
            matrix = plain_matrix(name)
            told = crystal(matrix, t)
            found = first_words(matrix)
            for k in range(7):
                for word in product(range(len(matrix)), repeat=k):
                    first = found[action(matrix, word)]
                    if len(first) == k:
                        self.assertEqual(cut_points(told, word), cut_points(told, first))

    def test_words_below_words(self):
        # With all entries of the first weight above 0 the points tell what is below; with some 0 they may not.
        for name, t in (
            ("A1", (2,)), ("A2", (1, 1)), ("A2", (1, 2)), ("B2", (1, 1)), ("G2", (1, 1)), ("A1+A1", (1, 2)),
            ("A3", (1, 1, 1)), ("A2", (2, 0)), ("A3", (0, 1, 0)),
        ):
            matrix = plain_matrix(name)
            told = crystal(matrix, t)
            words = first_words(matrix)
            points = {word: set(cut_points(told, word)) for word in words.values()}
            for other in words.values():
                under = {words[action(matrix, word)] for word in left_out(other)}
                for word in words.values():
                    if word in under:
                        self.assertLessEqual(points[word], points[other])
                    elif min(t) > 0:
                        self.assertFalse(points[word] <= points[other])

    def test_words_that_are_not_least(self):
        self.assertEqual(cut_points(EIGHT, (0, 0)), (0, 1))
        self.assertEqual(cut_points(EIGHT, (1, 0, 1, 0, 1)), tuple(range(8)))
        self.assertEqual(cut_points(ONE, (0,) * 5), (0, 1))
