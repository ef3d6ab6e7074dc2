"""Promises [39] and [40]."""

import unittest
from itertools import combinations, product

from tests.plain_webs import listed_anew, plain_steps, plain_sum, plain_under, plain_web, tops_up_to
from tests.samples import (
    ALL_NAMES, all_listed, grown_words, plain_listed, plain_matrix, plain_moved, plain_reflected,
)
from weightwebs.errors import NotFlat
from weightwebs.flats import flat_of, flat_weights, heap_lots, heap_of, is_flat
from weightwebs.webs import crystal

# As the textbooks tell them.
FLAT = {
    "A1": ((0,), (1,)),
    "A2": ((0, 0), (0, 1), (1, 0)),
    "A3": ((0, 0, 0), (0, 0, 1), (0, 1, 0), (1, 0, 0)),
    "A4": ((0, 0, 0, 0), (0, 0, 0, 1), (0, 0, 1, 0), (0, 1, 0, 0), (1, 0, 0, 0)),
    "B2": ((0, 0), (0, 1)),
    "B3": ((0, 0, 0), (0, 0, 1)),
    "B4": ((0, 0, 0, 0), (0, 0, 0, 1)),
    "C3": ((0, 0, 0), (1, 0, 0)),
    "C4": ((0, 0, 0, 0), (1, 0, 0, 0)),
    "D4": ((0, 0, 0, 0), (0, 0, 0, 1), (0, 0, 1, 0), (1, 0, 0, 0)),
    "F4": ((0, 0, 0, 0),),
    "G2": ((0, 0),),
}

# Words and heaps written by hand.
HEAPS = (
    ("A1", (0,), (), (), ((),)),
    ("A1", (1,), (0,), (), ((), (0,))),
    ("A2", (1, 0), (1, 0), ((0, 1),), ((), (0, 1), (1,))),
    ("A2", (0, 1), (0, 1), ((0, 1),), ((), (0, 1), (1,))),
    ("A1+A1", (1, 1), (0, 1), (), ((), (0,), (0, 1), (1,))),
    ("B2", (0, 1), (1, 0, 1), ((0, 1), (0, 2), (1, 2)), ((), (0, 1, 2), (1, 2), (2,))),
    ("A3", (0, 1, 0), (1, 0, 2, 1), ((0, 1), (0, 2), (0, 3), (1, 3), (2, 3)),
     ((), (0, 1, 2, 3), (1, 2, 3), (1, 3), (2, 3), (3,))),
    ("C3", (1, 0, 0), (0, 1, 2, 1, 0), tuple(combinations(range(5), 2)),
     ((), (0, 1, 2, 3, 4), (1, 2, 3, 4), (2, 3, 4), (3, 4), (4,))),
    ("A1+A2", (1, 1, 0), (0, 2, 1), ((1, 2),), ((), (0,), (0, 1, 2), (0, 2), (1, 2), (2,))),
)


def plain_determinant(matrix):
    if not matrix:
        return 1
    return sum(
        (-1) ** j * entry * plain_determinant([row[:j] + row[j + 1:] for row in matrix[1:]])
        for j, entry in enumerate(matrix[0])
    )


def plain_flats(name):
    """All flat weights: one for each piece, in every way."""
    return tuple(sorted(sum(parts, ()) for parts in product(*[FLAT[part] for part in name.split("+")])))


def plain_hangs(matrix, word):
    """All pairs of places that are joined by places whose neighbours do not commute."""
    pairs = {(p, q) for p, q in combinations(range(len(word)), 2) if matrix[word[p]][word[q]] != 0}
    while True:
        more = {(p, s) for p, q in pairs for r, s in pairs if q == r} - pairs
        if not more:
            return tuple(sorted(pairs))
        pairs |= more


def plain_lots(pairs, many):
    found = []
    for k in range(many + 1):
        for lot in combinations(range(many), k):
            if all(q in lot for p, q in pairs if p in lot):
                found.append(lot)
    return tuple(sorted(found))


class IsFlat(unittest.TestCase):
    def test_by_hand(self):
        a2, b2 = plain_matrix("A2"), plain_matrix("B2")
        self.assertIs(is_flat(a2, (1, 0)), True)
        self.assertIs(is_flat(a2, (1, 1)), False)
        self.assertIs(is_flat(a2, (2, 0)), False)
        self.assertIs(is_flat(b2, (0, 1)), True)
        self.assertIs(is_flat(b2, (1, 0)), False)
        self.assertIs(is_flat(plain_matrix("G2"), (1, 0)), False)
        self.assertIs(is_flat(plain_matrix("A1+A1"), (1, 1)), True)
        self.assertIs(is_flat(plain_matrix("A1+A1"), (1, 2)), False)

    def test_none_lies_under_it(self):
        for name in ALL_NAMES:
            for matrix in (all_listed(name)[0], all_listed(name)[-1]):
                for t in tops_up_to(matrix, 45):
                    self.assertIs(is_flat(matrix, t), plain_under(matrix, t) == (t,))

    def test_great_entries(self):
        for name in ALL_NAMES:
            rank = len(plain_matrix(name))
            for i in range(rank):
                t = tuple(10 ** 40 if j == i else 0 for j in range(rank))
                self.assertIs(is_flat(plain_matrix(name), t), False)


class FlatWeights(unittest.TestCase):
    def test_every_name(self):
        for name in ALL_NAMES:
            matrix = plain_matrix(name)
            found = flat_weights(matrix)
            self.assertEqual(found, plain_flats(name))
            self.assertEqual(len(found), plain_determinant(matrix))
            self.assertEqual(found[0], (0,) * len(matrix))

    def test_rows_listed_anew(self):
        for name in ALL_NAMES:
            matrix = plain_matrix(name)
            for listing in ((0,), (1, 0), (1, 2, 0), (2, 0, 3, 1))[len(matrix) - 1:len(matrix)]:
                wanted = tuple(sorted(listed_anew(t, listing) for t in plain_flats(name)))
                self.assertEqual(flat_weights(plain_listed(matrix, listing)), wanted)

    def test_each_weight_comes_once(self):
        for name in ALL_NAMES:
            matrix = plain_matrix(name)
            for t in flat_weights(matrix):
                self.assertEqual(set(plain_web(matrix, t).values()), {1})


class FlatOf(unittest.TestCase):
    def test_by_hand(self):
        a1, a2, b2 = [plain_matrix(name) for name in ("A1", "A2", "B2")]
        self.assertEqual([flat_of(a1, (k,)) for k in range(-3, 4)], [(1,), (0,), (1,), (0,), (1,), (0,), (1,)])
        self.assertEqual(flat_of(a2, (2, 0)), (0, 1))
        self.assertEqual(flat_of(a2, (1, 1)), (0, 0))
        self.assertEqual(flat_of(a2, (-1, 0)), (0, 1))
        self.assertEqual(flat_of(b2, (7, -4)), (0, 0))
        self.assertEqual(flat_of(b2, (-7, -3)), (0, 1))
        self.assertEqual(flat_of(plain_matrix("G2"), (-5, 12)), (0, 0))

    def test_of_any_sign(self):
        for name in ALL_NAMES:
            matrix = plain_matrix(name)
            rank = len(matrix)
            flats = plain_flats(name)
            for v in list(product(range(-2, 3), repeat=rank))[::1 + 7 * (rank == 4)]:
                wanted = [
                    t for t in flats
                    if all(step.denominator == 1 for step in plain_steps(matrix, plain_sum(v, t, -1)))
                ]
                self.assertEqual([flat_of(matrix, v)], wanted)

    def test_great_entries(self):
        for name in ALL_NAMES:
            matrix = plain_matrix(name)
            many = plain_determinant(matrix) * 10 ** 40
            for t in plain_flats(name):
                for sign in (1, -1):
                    v = tuple(entry + sign * many * (k + 1) for k, entry in enumerate(t))
                    self.assertEqual(flat_of(matrix, v), t)
                self.assertEqual(flat_of(matrix, t), t)


class Heaps(unittest.TestCase):
    def test_by_hand(self):
        for name, t, word, pairs, lots in HEAPS:
            self.assertEqual(heap_of(plain_matrix(name), t), (word, pairs))
            self.assertEqual(heap_lots(plain_matrix(name), t), lots)

    def test_zero_weight(self):
        for name in ALL_NAMES:
            matrix = plain_matrix(name)
            self.assertEqual(heap_of(matrix, (0,) * len(matrix)), ((), ()))
            self.assertEqual(heap_lots(matrix, (0,) * len(matrix)), ((),))

    def test_every_flat_weight(self):
        for name in ALL_NAMES:
            for matrix in (all_listed(name)[0], plain_matrix(name), all_listed(name)[-1]):
                for t in flat_weights(matrix):
                    self.check(matrix, t)

    def check(self, matrix, t):
        word, pairs = heap_of(matrix, t)
        weights = crystal(matrix, t)[0]
        self.assertEqual(plain_moved(matrix, t, word), weights[-1])
        self.assertEqual(word, first_way(matrix, t, weights[-1]))
        self.assertEqual(pairs, plain_hangs(matrix, word))
        lots = heap_lots(matrix, t)
        self.assertEqual(lots, plain_lots(pairs, len(word)))
        self.assertEqual(len(lots), len(weights))
        found = []
        for lot in lots:
            v = t
            for p in lot:
                v = plain_sum(v, matrix[word[p]], -1)
            found.append(v)
        self.assertEqual(sorted(found), sorted(weights))

    def test_the_word_is_one_of_all(self):
        for name in ("A2", "B2", "A3", "A1+A2", "C3", "B3"):
            matrix = plain_matrix(name)
            words = sorted(grown_words(matrix).values(), key=lambda word: (len(word), word))
            for t in flat_weights(matrix):
                low = crystal(matrix, t)[0][-1]
                wanted = next(word for word in words if plain_moved(matrix, t, word) == low)
                self.assertEqual(heap_of(matrix, t)[0], wanted)

    def test_other_weights(self):
        for name in ALL_NAMES:
            matrix = plain_matrix(name)
            flats = plain_flats(name)
            others = [t for t in tops_up_to(matrix, 40) if t not in flats]
            for t in others + [(2,) * len(matrix), (10 ** 30,) * len(matrix)]:
                for call in (heap_of, heap_lots):
                    with self.assertRaises(NotFlat):
                        call(matrix, t)


def first_way(matrix, t, low):
    """The first word of least length that moves t to a weight, weights being moved one by one."""
    ways = {t: ()}
    ahead = [t]
    while low not in ways:
        longer = {}
        for v in ahead:
            for i in range(len(matrix)):
                w = plain_reflected(matrix, v, i)
                if w not in ways:
                    longer[w] = min(longer.get(w, (9,)), (i,) + ways[v])
        ways.update(longer)
        ahead = list(longer)
    return ways[low]
