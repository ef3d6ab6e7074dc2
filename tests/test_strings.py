"""Promises [31] and [32]."""

import unittest
from functools import lru_cache
from itertools import product

from tests.plain_webs import listed_webs, spread
from tests.plain_words import plain_before
from tests.samples import ALL_NAMES, action, all_listed, grown_words, plain_matrix
from tests.test_crystals import EIGHT, FIVE, LINE, ONE, SIX, THREE, ZERO
from weightwebs.groups import longest_word
from weightwebs.reflections import is_least
from weightwebs.strings import point_of_string, string_after, string_of, word_after, word_moves
from weightwebs.webs import crystal


@lru_cache(maxsize=None)
def longest_words(matrix):
    """All least words of greatest length, the rows put behind one another as long as the words stay least."""
    lengths = {told: len(word) for told, word in grown_words(matrix).items()}
    found = {(): action(matrix, ())}
    for k in range(max(lengths.values())):
        longer = {}
        for word in found:
            for i in range(len(matrix)):
                told = action(matrix, word + (i,))
                if lengths[told] == k + 1:
                    longer[word + (i,)] = told
        found = longer
    return sorted(found)


def some_longest_words(matrix):
    """A few of the least words of greatest length: spread over all, or the first one and what comes of it."""
    first = longest_word(matrix)
    if len(first) <= 6:
        return spread(longest_words(matrix), 4)
    return sorted({first, first[::-1], first[1:] + (tail_of(matrix, first),)})


def tail_of(matrix, first):
    """The row that makes a least word of greatest length whole again when its first entry is taken off."""
    wanted = action(matrix, first)
    return next(i for i in range(len(matrix)) if action(matrix, first[1:] + (i,)) == wanted)


def plain_string(told, p, word):
    found = []
    for i in word:
        found.append(0)
        while plain_before(told, p, i) >= 0:
            p = plain_before(told, p, i)
            found[-1] += 1
    assert p == 0
    return tuple(found)


class StringOf(unittest.TestCase):
    def test_by_hand(self):
        self.assertEqual([string_of(LINE, p, (0,)) for p in range(4)], [(0,), (1,), (2,), (3,)])
        self.assertEqual([string_of(THREE, p, (0, 1, 0)) for p in range(3)], [(0, 0, 0), (1, 0, 0), (0, 1, 1)])
        self.assertEqual([string_of(THREE, p, (1, 0, 1)) for p in range(3)], [(0, 0, 0), (0, 1, 0), (1, 1, 0)])
        self.assertEqual(
            [string_of(EIGHT, p, (0, 1, 0)) for p in range(8)],
            [(0, 0, 0), (1, 0, 0), (0, 1, 0), (0, 1, 1), (1, 1, 0), (0, 2, 1), (2, 1, 0), (1, 2, 1)],
        )
        self.assertEqual(string_of(FIVE, 4, (0, 1, 0, 1)), (1, 2, 1, 0))
        self.assertEqual(string_of(FIVE, 4, (1, 0, 1, 0)), (0, 1, 2, 1))
        self.assertEqual(string_of(SIX, 3, (0, 1)), (1, 1))
        self.assertEqual(string_of(ZERO, 0, (0,)), (0,))

    def test_every_point(self):
        for matrix, t in listed_webs(110):
            told = crystal(matrix, t)
            for word in some_longest_words(matrix):
                found = [string_of(told, p, word) for p in range(len(told[0]))]
                self.assertEqual(found[0], (0,) * len(word))
                self.assertEqual(len(set(found)), len(found))
                for p in spread(range(len(found)), 8):
                    self.assertEqual(found[p], plain_string(told, p, word))

    def test_every_longest_word(self):
        for name, t in (
            ("A1", (3,)), ("A2", (2, 1)), ("B2", (1, 1)), ("G2", (1, 0)), ("A3", (1, 1, 0)), ("A1+A2", (2, 1, 1)),
        ):
            matrix = plain_matrix(name)
            told = crystal(matrix, t)
            for word in longest_words(matrix):
                found = [string_of(told, p, word) for p in range(len(told[0]))]
                self.assertEqual(found, [plain_string(told, p, word) for p in range(len(found))])
                self.assertEqual(len(set(found)), len(found))

    def test_the_steps_are_those_of_the_weight(self):
        for matrix, t in listed_webs(60):
            told = crystal(matrix, t)
            word = longest_word(matrix)
            for p, weight in enumerate(told[0]):
                v = t
                for i, many in zip(word, string_of(told, p, word)):
                    v = tuple(a - many * b for a, b in zip(v, matrix[i]))
                self.assertEqual(v, weight)


class PointOfString(unittest.TestCase):
    def test_by_hand(self):
        self.assertEqual(point_of_string(EIGHT, (0, 1, 1), (0, 1, 0)), 3)
        self.assertEqual(point_of_string(EIGHT, (1, 1, 0), (0, 1, 0)), 4)
        # Arrows lead to these points, but another string is theirs.
        self.assertIsNone(point_of_string(EIGHT, (0, 0, 1), (0, 1, 0)))
        self.assertIsNone(point_of_string(THREE, (0, 0, 1), (0, 1, 0)))
        # No arrow leads on.
        self.assertIsNone(point_of_string(EIGHT, (0, 0, 2), (0, 1, 0)))
        self.assertIsNone(point_of_string(ZERO, (1,), (0,)))

    def test_every_point_is_found_again(self):
        for matrix, t in listed_webs(110):
            told = crystal(matrix, t)
            for word in some_longest_words(matrix)[:2]:
                for p in range(len(told[0])):
                    self.assertEqual(point_of_string(told, string_of(told, p, word), word), p)

    def test_all_other_tuples(self):
        for told, words, most in (
            (LINE, ((0,),), 12), (THREE, ((0, 1, 0), (1, 0, 1)), 5), (EIGHT, ((0, 1, 0), (1, 0, 1)), 5),
            (FIVE, ((0, 1, 0, 1), (1, 0, 1, 0)), 4), (SIX, ((0, 1), (1, 0)), 8), (ONE, ((0,),), 9),
        ):
            for word in words:
                points = {string_of(told, p, word): p for p in range(len(told[0]))}
                for string in product(range(most), repeat=len(word)):
                    self.assertEqual(point_of_string(told, string, word), points.get(string))

    def test_other_tuples_of_greater_rank(self):
        matrix = plain_matrix("A3")
        told = crystal(matrix, (1, 0, 1))
        word = longest_word(matrix)
        points = {string_of(told, p, word): p for p in range(len(told[0]))}
        for string in product(range(3), repeat=6):
            self.assertEqual(point_of_string(told, string, word), points.get(string))

    def test_great_entries(self):
        great = 10 ** 40
        for string in ((great, 0, 0), (0, great, 0), (0, 0, great), (great,) * 3, (0, great, 1), (great, 1, 1)):
            self.assertIsNone(point_of_string(EIGHT, string, (0, 1, 0)))
        self.assertIsNone(point_of_string(LINE, (great,), (0,)))
        self.assertIsNone(point_of_string(LINE, (4,), (0,)))
        self.assertEqual(point_of_string(LINE, (3,), (0,)), 3)


def plain_moves(matrix, word):
    found = []
    for k in range(len(word)):
        pair, three = word[k:k + 2], word[k:k + 3]
        if len(pair) == 2 and matrix[pair[0]][pair[1]] == 0:
            found.append((k, "swap"))
        if len(three) == 3 and three[0] == three[2] and three[0] != three[1]:
            if (matrix[three[0]][three[1]], matrix[three[1]][three[0]]) == (-1, -1):
                found.append((k, "turn"))
    return tuple(sorted(found))


class Moves(unittest.TestCase):
    def test_by_hand(self):
        a3, b3, d4 = [plain_matrix(name) for name in ("A3", "B3", "D4")]
        self.assertEqual(word_moves(a3, (0, 1, 0, 2, 1, 0)), ((0, "turn"), (2, "swap")))
        self.assertEqual(word_moves(a3, (0, 2, 0, 2)), ((0, "swap"), (1, "swap"), (2, "swap")))
        self.assertEqual(word_moves(a3, (0, 1, 0, 1, 2, 1)), ((0, "turn"), (1, "turn"), (3, "turn")))
        self.assertEqual(word_moves(b3, (1, 2, 1, 2)), ())
        self.assertEqual(word_moves(b3, (0, 1, 0, 2)), ((0, "turn"), (2, "swap")))
        self.assertEqual(word_moves(d4, (0, 2, 3, 1, 3)), ((0, "swap"), (1, "swap"), (2, "turn")))
        self.assertEqual(word_moves(plain_matrix("G2"), (0, 1, 0, 1, 0, 1)), ())

    def test_short_words_and_equal_neighbours(self):
        a2 = plain_matrix("A2")
        for word in ((), (0,), (0, 1), (0, 0), (0, 0, 0), (1, 1, 0), (0, 1, 1)):
            self.assertEqual(word_moves(a2, word), ())
        self.assertEqual(word_moves(plain_matrix("A1"), (0, 0, 0)), ())
        self.assertEqual(word_moves(plain_matrix("A1+A1"), (0, 1)), ((0, "swap"),))
        self.assertEqual(word_moves(a2, (1, 0, 1)), ((0, "turn"),))

    def test_all_words(self):
        for name in ("A1", "A2", "B2", "G2", "A1+A1", "A3", "B3", "C3", "A1+A2", "A1+B2"):
            for matrix in all_listed(name):
                for k in range(6):
                    for word in product(range(len(matrix)), repeat=k):
                        self.assertEqual(word_moves(matrix, word), plain_moves(matrix, word))
        for name in ALL_NAMES[-18:]:
            for matrix in all_listed(name)[::5]:
                for word in product(range(4), repeat=4):
                    self.assertEqual(word_moves(matrix, word), plain_moves(matrix, word))

    def test_words_after(self):
        self.assertEqual(word_after((3, 0, 2, 1), (1, "swap")), (3, 2, 0, 1))
        self.assertEqual(word_after((3, 0, 1, 0, 2), (1, "turn")), (3, 1, 0, 1, 2))
        self.assertEqual(word_after((0, 1, 0), (0, "turn")), (1, 0, 1))
        self.assertEqual(word_after((0, 2), (0, "swap")), (2, 0))
        self.assertEqual(word_after((0, 2, 0), (1, "swap")), (0, 0, 2))

    def test_strings_after(self):
        self.assertEqual(string_after((9, 1, 5, 7), (1, "swap")), (9, 5, 1, 7))
        self.assertEqual(string_after((1, 5, 2), (0, "turn")), (4, 3, 1))
        self.assertEqual(string_after((8, 1, 5, 2, 9), (1, "turn")), (8, 4, 3, 1, 9))
        self.assertEqual(string_after((4, 2, 3), (0, "turn")), (3, 7, -1))
        self.assertEqual(string_after((0, 0, 0), (0, "turn")), (0, 0, 0))
        self.assertEqual(string_after((0, 2, 1), (0, "turn")), (2, 1, 0))
        self.assertEqual(string_after((-3, 2, -7), (0, "turn")), (5, -10, -3))
        self.assertEqual(string_after((10 ** 30, -5), (0, "swap")), (-5, 10 ** 30))

    def test_any_integers(self):
        for a, b, c in product(range(-3, 4), repeat=3):
            wanted = (max(c, b - a), a + c, min(a, b - c))
            self.assertEqual(string_after((a, b, c), (0, "turn")), wanted)
            self.assertEqual(string_after((6, a, b, c, 5, 5), (1, "turn")), (6,) + wanted + (5, 5))

    def test_done_twice(self):
        for name in ("A2", "A3", "B3", "D4", "A1+A1", "A1+A3", "F4"):
            matrix = plain_matrix(name)
            for word in product(range(len(matrix)), repeat=4):
                string = (3, 7, 2, 5)
                for move in word_moves(matrix, word):
                    other = word_after(word, move)
                    self.assertIn(move, word_moves(matrix, other))
                    self.assertEqual(word_after(other, move), word)
                    self.assertEqual(action(matrix, other), action(matrix, word))
                    self.assertEqual(len(other), len(word))
                    if move[1] == "swap":
                        self.assertEqual(string_after(string_after(string, move), move), string)
        # A turn of a string done twice gives it back where its middle is at least its end.
        for a, b, c in product(range(5), repeat=3):
            if b >= c:
                turned = string_after((a, b, c), (0, "turn"))
                self.assertEqual(string_after(turned, (0, "turn")), (a, b, c))

    def test_the_moved_string_is_that_of_the_same_point(self):
        for matrix, t in listed_webs(60):
            told = crystal(matrix, t)
            for word in some_longest_words(matrix):
                for move in word_moves(matrix, word):
                    other = word_after(word, move)
                    self.assertTrue(is_least(matrix, other))
                    for p in range(len(told[0])):
                        string = string_of(told, p, word)
                        self.assertEqual(string_after(string, move), string_of(told, p, other))
                        self.assertEqual(string_after(string_after(string, move), move), string)

    def test_all_longest_words_of_one_matrix(self):
        matrix = plain_matrix("A3")
        told = crystal(matrix, (1, 1, 1))
        self.assertEqual(len(longest_words(matrix)), 16)
        for word in longest_words(matrix):
            for move in word_moves(matrix, word):
                self.assertIn(word_after(word, move), longest_words(matrix))
                for p in range(len(told[0])):
                    wanted = string_of(told, p, word_after(word, move))
                    self.assertEqual(string_after(string_of(told, p, word), move), wanted)
