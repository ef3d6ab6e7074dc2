"""Promise [11]."""

import unittest

from tests.samples import (
    ALL_NAMES, SMALL, action, all_listed, by_length, first_words, grown_words, left_out, lots, plain_matrix,
)
from weightwebs.belows import below, coset_words, descents, is_below, turned
from weightwebs.errors import TooMany
from weightwebs.groups import group_size, longest_word
from weightwebs.matrices import listed


def plain_below(matrix, found, word):
    """The first words of all that comes of a least word by leaving out entries."""
    return {found[action(matrix, part)] for part in left_out(found[action(matrix, word)])}


class Below(unittest.TestCase):
    def test_by_hand(self):
        matrix = plain_matrix("A2")
        self.assertEqual(below(matrix, (0, 1)), ((), (0,), (1,), (0, 1)))
        self.assertEqual(below(matrix, (1, 0, 1)), ((), (0,), (1,), (0, 1), (1, 0), (0, 1, 0)))
        self.assertIs(is_below(matrix, (0,), (1, 0)), True)
        self.assertIs(is_below(matrix, (0, 1), (1, 0)), False)
        self.assertIs(is_below(matrix, (1, 0), (1,)), False)
        matrix = plain_matrix("A3")
        self.assertIs(is_below(matrix, (0, 2), (0, 1, 2)), True)
        self.assertIs(is_below(matrix, (2, 0), (0, 1, 2)), True)
        self.assertIs(is_below(matrix, (1, 0), (0, 1, 2)), False)

    def test_the_empty_word(self):
        for name in ALL_NAMES:
            matrix = plain_matrix(name)
            self.assertIs(is_below(matrix, (), ()), True)
            self.assertIs(is_below(matrix, (), longest_word(matrix)), True)
            self.assertIs(is_below(matrix, longest_word(matrix), ()), False)
            if group_size(matrix) <= 400:
                self.assertEqual(below(matrix, ()), ((),))

    def test_words_that_are_not_least(self):
        matrix = plain_matrix("A2")
        self.assertIs(is_below(matrix, (0, 1, 1), (0,)), True)
        self.assertIs(is_below(matrix, (0,), (0, 0)), False)
        self.assertIs(is_below(matrix, (0,), (1, 0, 0)), False)
        self.assertIs(is_below(matrix, (0, 1, 0, 1), (0, 1)), False)
        self.assertIs(is_below(matrix, (0, 1, 0, 1), (1, 0)), True)
        self.assertEqual(below(matrix, (0, 1, 1, 0)), ((),))
        self.assertEqual(below(matrix, (0, 1, 0, 1)), ((), (0,), (1,), (1, 0)))

    def check_all(self, matrix, found):
        for other in found.values():
            under = plain_below(matrix, found, other)
            self.assertEqual(below(matrix, other), by_length(under))
            self.assertEqual(below(matrix, other + (0, 0)), by_length(under))
            for word in found.values():
                self.assertIs(is_below(matrix, word, other), word in under)
                self.assertIs(is_below(matrix, word + (0, 0), other[::-1] + other + other), word in
                              plain_below(matrix, found, other[::-1] + other + other))

    def test_against_a_search(self):
        for name in ("A1", "A1+A1", "A2", "B2", "G2", "A1+A2"):
            for matrix in all_listed(name):
                self.check_all(matrix, first_words(matrix))

    def test_against_a_search_in_greater_matrices(self):
        for name in ("A3", "B3", "C3"):
            matrix = plain_matrix(name)
            found = grown_words(matrix)
            for other in found.values():
                under = plain_below(matrix, found, other)
                self.assertEqual(below(matrix, other), by_length(under))
                for word in found.values():
                    self.assertIs(is_below(matrix, word[::-1], other[::-1]), word in under)

    def test_all_words_are_below_the_longest(self):
        for name in ALL_NAMES:
            matrix = plain_matrix(name)
            if group_size(matrix) <= 400:
                told = below(matrix, longest_word(matrix))
                self.assertEqual(told, by_length(grown_words(matrix).values()))


class Turned(unittest.TestCase):
    def test_by_hand(self):
        matrix = plain_matrix("A2")
        self.assertEqual(turned(matrix, (0, 1)), (1, 0))
        self.assertEqual(turned(matrix, (1, 0, 1)), (0, 1, 0))
        self.assertEqual(turned(matrix, ()), ())
        self.assertEqual(turned(matrix, (0, 1, 1)), (0,))

    def test_against_a_search(self):
        for name in SMALL + ("B3", "C3"):
            matrix = plain_matrix(name)
            found = grown_words(matrix)
            for word in found.values():
                for longer in (word, word + (0, 0), word + word[:2]):
                    self.assertEqual(turned(matrix, longer), found[action(matrix, longer[::-1])])


class Descents(unittest.TestCase):
    def test_by_hand(self):
        matrix = plain_matrix("A2")
        self.assertEqual(descents(matrix, ()), ())
        self.assertEqual(descents(matrix, (0, 1)), (1,))
        self.assertEqual(descents(matrix, (1, 0)), (0,))
        self.assertEqual(descents(matrix, (1, 0, 1)), (0, 1))
        self.assertEqual(descents(matrix, (0, 1, 1)), (0,))

    def test_against_a_search(self):
        for name in SMALL + ("B3", "C3", "D4"):
            matrix = plain_matrix(name)
            found = grown_words(matrix)
            for word in found.values():
                wanted = tuple(
                    i for i in range(len(matrix)) if len(found[action(matrix, word + (i,))]) < len(word)
                )
                self.assertEqual(descents(matrix, word), wanted)
                self.assertEqual(descents(matrix, (0, 0) + word), wanted)


class CosetWords(unittest.TestCase):
    def test_by_hand(self):
        matrix = plain_matrix("A2")
        self.assertEqual(coset_words(matrix, ()), ((), (0,), (1,), (0, 1), (1, 0), (0, 1, 0)))
        self.assertEqual(coset_words(matrix, (0,)), ((), (1,), (0, 1)))
        self.assertEqual(coset_words(matrix, (1,)), ((), (0,), (1, 0)))
        self.assertEqual(coset_words(matrix, (0, 1)), ((),))

    def test_every_lot_against_a_search(self):
        for name in SMALL + ("B3", "C3", "A4", "D4", "B2+G2"):
            matrix = plain_matrix(name)
            found = grown_words(matrix)
            shorter = {
                word: [i for i in range(len(matrix)) if len(found[action(matrix, word + (i,))]) < len(word)]
                for word in found.values()
            }
            for lot in lots(len(matrix)):
                wanted = [word for word in shorter if not any(i in lot for i in shorter[word])]
                self.assertEqual(coset_words(matrix, lot), by_length(wanted))

    def test_how_many(self):
        for name in ALL_NAMES:
            matrix = plain_matrix(name)
            if group_size(matrix) <= 400:
                for lot in lots(len(matrix)):
                    part = group_size(listed(matrix, lot)) if lot else 1
                    self.assertEqual(len(coset_words(matrix, lot)) * part, group_size(matrix))


class Limit(unittest.TestCase):
    def check_raises(self, call):
        with self.assertRaises(TooMany) as caught:
            call()
        self.assertEqual(caught.exception.limit, 400)

    def test_too_many_whatever_the_word_or_lot_is(self):
        for matrix in all_listed("F4"):
            for word in ((), (0,), (1, 1), longest_word(matrix)):
                self.check_raises(lambda: below(matrix, word))
            for lot in lots(4):
                self.check_raises(lambda: coset_words(matrix, lot))

    def test_the_others_have_no_limit(self):
        matrix = plain_matrix("F4")
        word = longest_word(matrix)
        self.assertIs(is_below(matrix, word[::-1], word), True)
        self.assertIs(is_below(matrix, word, word[:-1]), False)
        self.assertEqual(turned(matrix, word), word)
        self.assertEqual(descents(matrix, word), (0, 1, 2, 3))

    def test_just_below_the_limit(self):
        for name in ("B4", "C4"):
            matrix = plain_matrix(name)
            self.assertEqual(group_size(matrix), 384)
            self.assertEqual(len(below(matrix, longest_word(matrix))), 384)
            self.assertEqual(len(coset_words(matrix, ())), 384)
            self.assertEqual(coset_words(matrix, (0, 1, 2, 3)), ((),))
