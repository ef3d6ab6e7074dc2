"""Promise [2]: the errors, and the names of the interface in their files."""

import importlib
import inspect
import os
import unittest

from weightwebs import errors
from weightwebs.errors import NotCrystal, NotFlat, NotMatrix, NotName, TooMany, WebError

KINDS = (NotMatrix, NotName, TooMany, NotCrystal, NotFlat)

INTERFACE = {
    "matrices": {
        "matrix_breach": ["value"], "check_matrix": ["value"], "listed": ["matrix", "listing"],
        "pieces": ["matrix"],
    },
    "names": {"matrix_of": ["name"], "name_of": ["matrix"], "listing_of": ["matrix"], "names": ["rank"]},
    "roots": {
        "as_weight": ["matrix", "c"], "positive_roots": ["matrix"], "lengths": ["matrix"],
        "against": ["matrix", "v", "c"], "short_roots": ["matrix"], "tops": ["matrix"],
        "height_row": ["matrix"], "exponents": ["matrix"],
    },
    "reflections": {
        "reflected": ["matrix", "v", "i"], "moved": ["matrix", "v", "word"],
        "are_alike": ["matrix", "word", "other"], "length": ["matrix", "word"],
        "is_least": ["matrix", "word"], "first_word": ["matrix", "word"],
    },
    "groups": {
        "orbit": ["matrix", "v"], "topmost": ["matrix", "v"], "group_size": ["matrix"],
        "longest_word": ["matrix"], "length_row": ["matrix"],
    },
    "belows": {
        "is_below": ["matrix", "word", "other"], "below": ["matrix", "word"], "turned": ["matrix", "word"],
        "descents": ["matrix", "word"], "coset_words": ["matrix", "lot"],
    },
    "unders": {
        "is_under": ["matrix", "a", "b"], "steps_between": ["matrix", "a", "b"], "under": ["matrix", "t"],
    },
    "numbers": {
        "size": ["matrix", "t"], "numbers_by_strings": ["matrix", "t"], "partition_number": ["matrix", "c"],
        "numbers_by_partitions": ["matrix", "t"], "numbers_by_signs": ["matrix", "t"],
    },
    "cuts": {
        "cut_down": ["matrix", "sums", "i"], "cut_web": ["matrix", "t", "word"],
        "numbers_by_cuts": ["matrix", "t"], "all_numbers": ["matrix", "t"], "depth_row": ["matrix", "t"],
    },
    "crystals": {
        "falls": ["crystal", "p", "i"], "rises": ["crystal", "p", "i"], "before": ["crystal", "p", "i"],
    },
    "judges": {"crystal_breach": ["matrix", "value"], "check_crystal": ["matrix", "value"]},
    "paths": {
        "straight": ["t"], "lowered": ["matrix", "path", "i"], "raised": ["matrix", "path", "i"],
    },
    "webs": {
        "crystal": ["matrix", "t"], "crystal_of_path": ["matrix", "path"], "path_of": ["matrix", "t", "p"],
    },
    "turns": {
        "string_turned": ["crystal", "p", "i"], "point_moved": ["crystal", "p", "word"],
        "corner_points": ["matrix", "crystal"], "opposite": ["matrix"], "turned_over": ["matrix", "crystal"],
    },
    "wordwebs": {
        "word_lowered": ["crystals", "word", "i"], "word_raised": ["crystals", "word", "i"],
        "word_weight": ["crystals", "word"], "top_words": ["crystals"],
        "web_of_word": ["matrix", "crystals", "word"],
    },
    "products": {
        "product_by_reflections": ["matrix", "a", "b"], "product_by_points": ["matrix", "a", "b"],
        "product_by_walks": ["matrix", "a", "b"], "product_by_peeling": ["matrix", "a", "b"],
        "power_parts": ["matrix", "t", "k"], "opposite_weight": ["matrix", "t"],
    },
    "parts": {
        "part_matrix": ["matrix", "lot"], "seen": ["v", "lot"], "parts_by_points": ["matrix", "t", "lot"],
        "parts_by_peeling": ["matrix", "t", "lot"], "cut_points": ["crystal", "word"],
    },
    "strings": {
        "string_of": ["crystal", "p", "word"], "point_of_string": ["crystal", "string", "word"],
        "word_moves": ["matrix", "word"], "word_after": ["word", "move"], "string_after": ["string", "move"],
    },
    "graded": {"graded_partition": ["matrix", "c"], "graded_number": ["matrix", "t", "v"]},
    "levels": {
        "level_of": ["matrix", "t"], "within_level": ["matrix", "k"], "level_product": ["matrix", "a", "b", "k"],
        "level_table": ["matrix", "a", "k"], "level_turns": ["matrix", "k"],
    },
    "folds": {
        "turnings": ["matrix"], "points_turned": ["crystal", "listing"], "even_points": ["crystal", "listing"],
        "rounds": ["listing"], "is_loose": ["matrix", "listing"], "folded_matrix": ["matrix", "listing"],
        "folded_web": ["matrix", "t", "listing"],
    },
    "flats": {
        "is_flat": ["matrix", "t"], "flat_weights": ["matrix"], "flat_of": ["matrix", "v"],
        "heap_of": ["matrix", "t"], "heap_lots": ["matrix", "t"],
    },
}


class Errors(unittest.TestCase):
    def test_each_is_a_direct_subclass_of_the_base(self):
        for kind in KINDS:
            self.assertEqual(kind.__bases__, (WebError,))

    def test_the_base_is_a_value_error(self):
        self.assertEqual(WebError.__bases__, (ValueError,))

    def test_no_other_classes_stand_there(self):
        classes = [value for value in vars(errors).values() if inspect.isclass(value)]
        self.assertCountEqual(classes, KINDS + (WebError,))

    def test_attributes_are_set_when_created(self):
        self.assertEqual(TooMany(400).limit, 400)
        for kind in (NotMatrix, NotCrystal):
            error = kind("form", -1)
            self.assertEqual((error.rule, error.place), ("form", -1))

    def test_they_can_be_shown(self):
        for error in (TooMany(400), NotMatrix("sign", 2), NotCrystal("back", 1)):
            self.assertTrue(str(error))

    def test_the_package_has_no_other_classes(self):
        folder = os.path.dirname(errors.__file__)
        for file in sorted(os.listdir(folder)):
            if file.endswith(".py") and file != "__init__.py":
                module = importlib.import_module("weightwebs." + file[:-3])
                classes = [value for value in vars(module).values() if inspect.isclass(value)]
                own = {value for value in classes if value.__module__.startswith("weightwebs")}
                self.assertLessEqual(own, set(KINDS) | {WebError}, file)


class Interface(unittest.TestCase):
    def test_each_function_stands_in_its_file_with_its_arguments(self):
        for file, functions in INTERFACE.items():
            module = importlib.import_module("weightwebs." + file)
            for name, arguments in functions.items():
                with self.subTest(file=file, name=name):
                    function = getattr(module, name)
                    self.assertEqual(function.__module__, "weightwebs." + file)
                    self.assertEqual(list(inspect.signature(function).parameters), arguments)
