"""Promise [2] over the whole program: what is returned, what is raised, and arguments that stay as they are."""

import importlib
import unittest
from copy import deepcopy

from tests.plain_webs import plain_size
from tests.samples import ALL_NAMES, all_listed, unit
from tests.test_errors import INTERFACE, KINDS
from weightwebs import (
    flats, folds, graded, groups, judges, levels, matrices, names, numbers, parts, paths, products, roots, strings,
    webs, wordwebs,
)
from weightwebs.errors import NotCrystal, NotFlat, NotMatrix, NotName, TooMany, WebError

# Functions whose matrix has one piece.
OF_ONE_PIECE = ("level_of", "within_level", "level_product", "level_table", "level_turns")


def least_top(matrix):
    """The weight with a single 1 that has the smallest web."""
    rank = len(matrix)
    return min([unit(rank, i) for i in range(rank)], key=lambda t: plain_size(matrix, t))


def arguments(matrix):
    """For each parameter of the interface the values to call with, for one matrix."""
    rank = len(matrix)
    zero = (0,) * rank
    one = least_top(matrix)
    web = webs.crystal(matrix, one)
    longest = groups.longest_word(matrix)
    string = strings.string_of(web, len(web[0]) - 1, longest)
    return {
        "matrix": [matrix], "t": [zero, one, (2,) + zero[1:], (900,) * rank], "a": [zero, one], "b": [zero, one],
        "v": [zero, one], "c": [one, (1,) * rank, (12,) * rank, (13,) * rank], "i": [0, rank - 1], "p": [0],
        "k": [0, 1, 2, 6], "word": [longest], "other": [(0,), ()], "crystal": [web], "listing": folds.turnings(matrix),
        "lot": [(), (0,), tuple(range(rank))], "path": [paths.straight(one)], "string": [string, (9,) * len(string)],
        "move": [(0, "swap")], "crystals": [(web, web)], "name": ["A2", "A5", ""], "rank": [rank],
        "value": [matrix, web, None, 5, ((True,),), [[2]]], "sums": [((zero, 2), (one, -3))],
    }


def own_arguments(name, matrix):
    """What some functions are passed instead, so that the values fit each other."""
    rank = len(matrix)
    web = webs.crystal(matrix, least_top(matrix))
    if name in ("word_lowered", "word_raised", "word_weight", "web_of_word"):
        return {"word": list(wordwebs.top_words((web, web)))}
    if name == "part_matrix":
        return {"lot": [(0,), tuple(range(rank))]}
    if name == "against":
        return {"c": list(roots.positive_roots(matrix))}
    if name == "graded_number":
        return {"t": [(2,) + (0,) * (rank - 1), (900,) * rank], "v": [flats.flat_of(matrix, (2,) + (0,) * (rank - 1))]}
    if name in ("word_after", "string_after"):
        return {"word": [(0, 2, 1)], "string": [(5, 1, 3)], "move": [(0, "swap"), (1, "swap"), (0, "turn")]}
    if name in ("is_loose", "points_turned", "even_points", "folded_matrix", "folded_web"):
        return {"listing": [tuple(range(rank))]}
    return {}


def calls(name, parameters, matrix):
    values = arguments(matrix)
    values.update(own_arguments(name, matrix))
    found = [()]
    for parameter in parameters:
        found = [call + (value,) for call in found for value in values[parameter]]
    return found


def is_plain(value):
    if type(value) is tuple:
        return all(is_plain(part) for part in value)
    return value is None or type(value) in (int, str, bool)


class Returned(unittest.TestCase):
    def check(self, function, call):
        before = deepcopy(call)
        try:
            first = function(*call)
        except WebError as error:
            self.assertIn(type(error), KINDS)
            first = type(error)
        else:
            self.assertTrue(is_plain(first), (function.__name__, call))
        self.assertEqual(call, before)
        self.assertEqual(repr(call), repr(before))
        # A second call tells the same: nothing is kept between calls.
        try:
            second = function(*call)
        except WebError as error:
            second = type(error)
        self.assertEqual(second, first)

    def test_every_function(self):
        for file, functions in INTERFACE.items():
            module = importlib.import_module("weightwebs." + file)
            for name, parameters in functions.items():
                for matrix_name in ALL_NAMES:
                    matrix = all_listed(matrix_name)[-1]
                    if name in OF_ONE_PIECE and len(matrices.pieces(matrix)) > 1:
                        continue
                    for call in calls(name, parameters, matrix):
                        self.check(getattr(module, name), call)

    def test_truth(self):
        for name in ALL_NAMES:
            matrix = all_listed(name)[0]
            rank = len(matrix)
            self.assertIs(type(flats.is_flat(matrix, (1,) * rank)), bool)
            self.assertIs(type(folds.is_loose(matrix, folds.turnings(matrix)[-1])), bool)

    def test_values_that_could_be_changed(self):
        for value in ([[2, -1], [-1, 2]], ([2, -1], (-1, 2)), {0: 1}, [((1,), (-1,)), ((1,), (-1,))]):
            before = deepcopy(value)
            self.assertEqual(matrices.matrix_breach(value), ("form", -1))
            self.assertEqual(judges.crystal_breach(((2,),), value), ("form", -1))
            self.assertEqual(value, before)


class Raised(unittest.TestCase):
    def test_each_kind(self):
        a1 = ((2,),)
        for kind, call in (
            (NotMatrix, lambda: matrices.check_matrix(((1,),))),
            (NotName, lambda: names.matrix_of("A5")),
            (NotCrystal, lambda: judges.check_crystal(a1, None)),
            (NotFlat, lambda: flats.heap_of(a1, (2,))),
            (NotFlat, lambda: flats.heap_lots(a1, (2,))),
            (TooMany, lambda: webs.crystal(a1, (400,))),
            (TooMany, lambda: graded.graded_partition(a1, (13,))),
            (TooMany, lambda: levels.within_level(a1, 400)),
            (TooMany, lambda: products.power_parts(a1, (10,), 3)),
            (TooMany, lambda: parts.parts_by_peeling(a1, (600,), ())),
        ):
            with self.assertRaises(WebError) as caught:
                call()
            self.assertIs(type(caught.exception), kind)
            self.assertIsInstance(caught.exception, ValueError)

    def test_limits(self):
        a1 = ((2,),)
        web = webs.crystal(a1, (399,))
        for limit, call in (
            (12, lambda: numbers.partition_number(a1, (13,))),
            (12, lambda: graded.graded_partition(a1, (13,))),
            (400, lambda: levels.level_table(a1, (0,), 400)),
            (400, lambda: products.product_by_points(a1, (400,), (0,))),
            (400, lambda: wordwebs.web_of_word(a1, (web, web), (0, 0))),
            (600, lambda: graded.graded_number(a1, (600,), (0,))),
            (1000, lambda: levels.level_turns(a1, 31)),
            (1000, lambda: products.product_by_peeling(a1, (10,), (99,))),
            (4000, lambda: wordwebs.top_words((web, web))),
        ):
            with self.assertRaises(TooMany) as caught:
                call()
            self.assertEqual(caught.exception.limit, limit)
