"""Promises [25] and [26]."""

import unittest
from itertools import product

from tests.plain_paths import plain_crystal, plain_numbered
from tests.plain_webs import plain_size, plain_sum, tops_up_to
from tests.plain_words import (
    all_words, plain_parts, plain_signs_left, plain_word_lowered, plain_word_raised,
)
from tests.samples import ALL_NAMES, all_listed, plain_matrix
from tests.test_crystals import EIGHT, FIVE, LINE, ONE, SIX, THREE, ZERO
from weightwebs.errors import TooMany
from weightwebs.webs import crystal
from weightwebs.wordwebs import top_words, web_of_word, word_lowered, word_raised, word_weight

# The second web of three points of A2, that of (0, 1).
OTHER_THREE = (((0, 1), (1, -1), (-1, 0)), ((-1, 1), (2, -1), (-1, -1)))

# Lots of crystals of one matrix, from one of them to six.
LOTS = (
    ("A1", (ONE,)), ("A1", (LINE,)), ("A1", (ONE, ONE)), ("A1", (ONE, LINE)), ("A1", (LINE, ONE)),
    ("A1", (LINE, LINE, LINE)), ("A1", (ONE, ZERO, LINE, ONE)), ("A1", (ONE, ONE, LINE, ONE, ONE)),
    ("A1", (ONE, ONE, ONE, ONE, ONE, ONE)), ("A1", (ZERO, ONE, LINE, ONE, LINE, ZERO)),
    ("A2", (EIGHT,)), ("A2", (THREE, OTHER_THREE)), ("A2", (OTHER_THREE, THREE)), ("A2", (EIGHT, EIGHT)),
    ("A2", (THREE, EIGHT, OTHER_THREE)), ("A2", (THREE, THREE, THREE, THREE)),
    ("B2", (FIVE,)), ("B2", (FIVE, FIVE)), ("B2", (FIVE, FIVE, FIVE)),
    ("A1+A1", (SIX, SIX)), ("A1+A1", (SIX, SIX, SIX)),
)


def webs_of_pairs(most):
    """Matrices and pairs of crystals of small webs, for every name, the rows listed anew as well."""
    found = []
    for name in ALL_NAMES:
        for matrix in (all_listed(name)[0], all_listed(name)[-1]):
            tops = [t for t in tops_up_to(matrix, 27) if any(t)][:3]
            for a, b in product(tops, repeat=2):
                if plain_size(matrix, a) * plain_size(matrix, b) <= most:
                    found.append((matrix, (crystal(matrix, a), crystal(matrix, b))))
    return found


class Signs(unittest.TestCase):
    def test_two_points(self):
        webs = (ONE, ONE)
        for word, low, high in (
            ((0, 0), (1, 0), None), ((1, 0), (1, 1), (0, 0)), ((1, 1), None, (1, 0)), ((0, 1), None, None),
        ):
            self.assertEqual(word_lowered(webs, word, 0), low)
            self.assertEqual(word_raised(webs, word, 0), high)

    def test_many_signs_at_one_entry(self):
        # Point p of LINE has p times "-" and then 3 - p times "+".
        webs = (LINE, LINE)
        for word, low, high in (
            ((0, 0), (1, 0), None),
            ((0, 3), None, None),
            ((0, 2), (1, 2), None),
            ((0, 1), (1, 1), None),
            ((1, 1), (2, 1), (0, 1)),
            ((1, 2), (1, 3), (0, 2)),
            ((2, 1), (2, 2), (1, 1)),
            ((2, 3), None, (2, 2)),
            ((1, 3), None, (1, 2)),
            ((3, 2), (3, 3), (3, 1)),
            ((3, 0), (3, 1), (2, 0)),
        ):
            self.assertEqual(word_lowered(webs, word, 0), low)
            self.assertEqual(word_raised(webs, word, 0), high)

    def test_one_point(self):
        for told in (ONE, ZERO, LINE, THREE, EIGHT, FIVE, SIX):
            for p, row in enumerate(told[1]):
                for i, q in enumerate(row):
                    self.assertEqual(word_lowered((told,), (p,), i), None if q < 0 else (q,))
                    if q >= 0:
                        self.assertEqual(word_raised((told,), (q,), i), (p,))

    def test_all_signs_taken_out(self):
        self.assertIsNone(word_lowered((ONE,) * 6, (0, 0, 0, 1, 1, 1), 0))
        self.assertIsNone(word_raised((ONE,) * 6, (0, 0, 0, 1, 1, 1), 0))
        self.assertIsNone(word_raised((ONE,) * 6, (0, 1, 0, 0, 1, 1), 0))
        self.assertEqual(word_raised((ONE,) * 6, (1, 0, 0, 1, 1, 1), 0), (1, 0, 0, 1, 1, 0))
        self.assertEqual(word_raised((ONE,) * 6, (1, 0, 0, 1, 1, 0), 0), (0, 0, 0, 1, 1, 0))
        self.assertEqual(word_lowered((ONE,) * 6, (1, 0, 0, 1, 1, 0), 0), (1, 0, 0, 1, 1, 1))
        self.assertIsNone(word_lowered((ZERO, ZERO), (0, 0), 0))
        self.assertIsNone(word_raised((ZERO, ZERO), (0, 0), 0))

    def test_against_signs_written_down(self):
        for _, webs in LOTS:
            for word in all_words(webs):
                for i in range(len(webs[0][0][0])):
                    self.assertEqual(word_lowered(webs, word, i), plain_word_lowered(webs, word, i))
                    self.assertEqual(word_raised(webs, word, i), plain_word_raised(webs, word, i))

    def test_they_undo_each_other(self):
        for name, webs in LOTS:
            for word in all_words(webs):
                for i, root in enumerate(plain_matrix(name)):
                    low = word_lowered(webs, word, i)
                    if low is not None:
                        self.assertEqual(word_raised(webs, low, i), word)
                        self.assertEqual(word_weight(webs, low), plain_sum(word_weight(webs, word), root, -1))
                    high = word_raised(webs, word, i)
                    if high is not None:
                        self.assertEqual(word_lowered(webs, high, i), word)
                        self.assertEqual(word_weight(webs, high), plain_sum(word_weight(webs, word), root))


class WordWeight(unittest.TestCase):
    def test_by_hand(self):
        self.assertEqual(word_weight((ONE,), (1,)), (-1,))
        self.assertEqual(word_weight((ONE, LINE), (0, 2)), (0,))
        self.assertEqual(word_weight((THREE, EIGHT, OTHER_THREE), (1, 2, 0)), (1, 1))
        self.assertEqual(word_weight((SIX,) * 6, (0,) * 6), (6, 12))
        self.assertEqual(word_weight((FIVE, FIVE), (1, 3)), (0, 0))

    def test_it_tells_the_signs_left(self):
        for _, webs in LOTS:
            for word in all_words(webs)[::3]:
                for i, entry in enumerate(word_weight(webs, word)):
                    left = [sign for sign, _ in plain_signs_left(webs, word, i)]
                    self.assertEqual(left.count("+") - left.count("-"), entry)


class TopWords(unittest.TestCase):
    def test_the_example(self):
        self.assertEqual(top_words((ONE, ONE)), ((0, 0), (0, 1)))

    def test_one_crystal(self):
        for told in (ONE, ZERO, LINE, THREE, EIGHT, FIVE, SIX):
            self.assertEqual(top_words((told,)), ((0,),))

    def test_by_hand(self):
        self.assertEqual(top_words((THREE, OTHER_THREE)), ((0, 0), (0, 2)))
        self.assertEqual(top_words((THREE, THREE)), ((0, 0), (0, 1)))
        self.assertEqual(top_words((LINE, ONE)), ((0, 0), (0, 1)))
        self.assertEqual(top_words((ZERO, LINE)), ((0, 0),))
        self.assertEqual(top_words((FIVE, FIVE)), ((0, 0), (0, 1), (0, 4)))

    def test_six(self):
        found = top_words((ONE,) * 6)
        self.assertEqual(len(found), 20)
        self.assertEqual(found[0], (0, 0, 0, 0, 0, 0))
        self.assertEqual(found[-1], (0, 1, 0, 1, 0, 1))
        self.assertEqual(sum(word_weight((ONE,) * 6, word) == (0,) for word in found), 5)

    def test_all_of_them_ascending(self):
        for _, webs in LOTS:
            rows = range(len(webs[0][0][0]))
            wanted = [
                word for word in all_words(webs)
                if all(plain_word_raised(webs, word, i) is None for i in rows)
            ]
            self.assertEqual(top_words(webs), tuple(wanted))

    def test_pairs_of_every_name(self):
        for matrix, webs in webs_of_pairs(130):
            found = top_words(webs)
            self.assertEqual(list(found), sorted(set(found)))
            weights = [word_weight(webs, word) for word in found]
            wanted = plain_parts(matrix, (webs[0][0][0], webs[1][0][0]))
            self.assertEqual(tuple((v, weights.count(v)) for v in sorted(set(weights))), wanted)

    def line(self, *sizes):
        return tuple(crystal(plain_matrix("A1"), (many - 1,)) for many in sizes)

    def test_just_4000_words(self):
        for sizes in ((10, 400), (400, 10), (4, 10, 10, 10), (5, 5, 5, 4, 4, 2), (1, 1, 10, 400),
                      (1, 1, 1, 1, 20, 200)):
            webs = self.line(*sizes)
            found = top_words(webs)
            self.assertEqual(sum(word_weight(webs, word)[0] + 1 for word in found), 4000)
            self.assertEqual(list(found), sorted(found))

    def test_more_words(self):
        for sizes in ((2, 3, 23, 29), (4, 4, 4, 4, 4, 4), (400, 400), (400, 11), (11, 400), (400,) * 6, (1, 19, 211)):
            with self.assertRaises(TooMany) as caught:
                top_words(self.line(*sizes))
            self.assertEqual(caught.exception.limit, 4000)


def words_in_sequence(webs, word, rank):
    """The words of a web, as they are numbered."""
    found = [word]
    for other in found:
        for i in range(rank):
            low = word_lowered(webs, other, i)
            if low is not None and low not in found:
                found.append(low)
    return found


class WebOfWord(unittest.TestCase):
    def test_by_hand(self):
        a1 = plain_matrix("A1")
        self.assertEqual(web_of_word(a1, (ONE, ONE), (0, 1)), ZERO)
        self.assertEqual(web_of_word(a1, (ONE, ONE), (0, 0)), (((2,), (0,), (-2,)), ((1,), (2,), (-1,))))
        self.assertEqual(web_of_word(a1, (ONE, ONE, ONE), (0, 0, 0)), LINE)
        self.assertEqual(web_of_word(plain_matrix("A2"), (THREE, OTHER_THREE), (0, 0)), EIGHT)
        self.assertEqual(web_of_word(plain_matrix("A2"), (THREE, THREE), (0, 1)), OTHER_THREE)

    def test_one_crystal(self):
        for name, told in (("A1", LINE), ("A2", EIGHT), ("B2", FIVE), ("A1+A1", SIX), ("A1", ZERO)):
            self.assertEqual(web_of_word(plain_matrix(name), (told,), (0,)), told)

    def test_the_words_themselves(self):
        for name, webs in LOTS:
            matrix = plain_matrix(name)
            for word in top_words(webs):
                words = words_in_sequence(webs, word, len(matrix))
                lows = [[plain_word_lowered(webs, other, i) for i in range(len(matrix))] for other in words]
                rows = tuple(tuple(-1 if low is None else words.index(low) for low in row) for row in lows)
                weights = tuple(word_weight(webs, other) for other in words)
                self.assertEqual(web_of_word(matrix, webs, word), (weights, rows))
                self.assertEqual(plain_numbered(weights, rows), (weights, rows))

    def test_it_is_the_crystal_of_its_weight(self):
        for name, webs in LOTS:
            matrix = plain_matrix(name)
            for word in top_words(webs):
                wanted = plain_crystal(matrix, word_weight(webs, word))
                self.assertEqual(web_of_word(matrix, webs, word), wanted)

    def test_pairs_of_every_name(self):
        for matrix, webs in webs_of_pairs(130):
            for word in top_words(webs):
                self.assertEqual(web_of_word(matrix, webs, word), crystal(matrix, word_weight(webs, word)))

    def test_grouping(self):
        for name, webs in (
            ("A1", (ONE, LINE, ONE)), ("A1", (LINE, ONE, LINE)), ("A2", (THREE, OTHER_THREE, THREE)),
            ("A2", (EIGHT, THREE, THREE)), ("B2", (FIVE, FIVE, FIVE)), ("A1+A1", (SIX, SIX, SIX)),
            ("A2", (THREE, THREE, THREE, OTHER_THREE)),
        ):
            matrix = plain_matrix(name)
            for cut in range(1, len(webs)):
                for ahead, behind in product(top_words(webs[:cut]), top_words(webs[cut:])):
                    self.check_grouping(matrix, webs, cut, ahead, behind)

    def check_grouping(self, matrix, webs, cut, ahead, behind):
        rows = range(len(matrix))
        groups = (web_of_word(matrix, webs[:cut], ahead), web_of_word(matrix, webs[cut:], behind))
        words = (words_in_sequence(webs[:cut], ahead, len(rows)), words_in_sequence(webs[cut:], behind, len(rows)))
        for p, q in top_words(groups):
            told = words[0][p] + words[1][q]
            self.assertIn(told, top_words(webs))
            self.assertEqual(web_of_word(matrix, groups, (p, q)), web_of_word(matrix, webs, told))
        for p, q in all_words(groups)[::5]:
            for i in rows:
                low = word_lowered(groups, (p, q), i)
                wanted = None if low is None else words[0][low[0]] + words[1][low[1]]
                self.assertEqual(word_lowered(webs, words[0][p] + words[1][q], i), wanted)

    def test_limit(self):
        matrix = plain_matrix("A1")
        half, more = crystal(matrix, (199,)), crystal(matrix, (200,))
        self.assertEqual(web_of_word(matrix, (half, more), (0, 0)), crystal(matrix, (399,)))
        self.assertEqual(web_of_word(matrix, (more, more), (0, 1)), crystal(matrix, (398,)))
        a2 = plain_matrix("A2")
        great = crystal(a2, (5, 5))
        for told, webs, word in (
            (matrix, (more, more), (0, 0)), (matrix, (crystal(matrix, (399,)), ONE), (0, 0)),
            (a2, (great, great), (0, 0)),
        ):
            with self.assertRaises(TooMany) as caught:
                web_of_word(told, webs, word)
            self.assertEqual(caught.exception.limit, 400)

    def test_more_than_4000_words_are_no_matter(self):
        matrix = plain_matrix("A1")
        webs = (crystal(matrix, (99,)), crystal(matrix, (99,)))
        self.assertEqual(web_of_word(matrix, webs, (0, 0)), crystal(matrix, (198,)))
