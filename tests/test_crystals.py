"""Promise [19]."""

import unittest

from weightwebs.crystals import before, falls, rises

# Crystals written by hand: a name, the weights, the arrows.
ONE = (((1,), (-1,)), ((1,), (-1,)))
ZERO = (((0,),), ((-1,),))
LINE = (((3,), (1,), (-1,), (-3,)), ((1,), (2,), (3,), (-1,)))

# A2 with the topmost weight (1, 0).
THREE = (((1, 0), (-1, 1), (0, -1)), ((1, -1), (-1, 2), (-1, -1)))

# A2 with the topmost weight (1, 1): from point 0 both ways round to point 7.
EIGHT = (
    ((1, 1), (-1, 2), (2, -1), (0, 0), (0, 0), (1, -2), (-2, 1), (-1, -1)),
    ((1, 2), (-1, 3), (4, -1), (-1, 5), (6, -1), (7, -1), (-1, 7), (-1, -1)),
)

# B2 with the topmost weight (1, 0): the arrow 0, twice the arrow 1, the arrow 0.
FIVE = (
    ((1, 0), (-1, 2), (0, 0), (1, -2), (-1, 0)),
    ((1, -1), (-1, 2), (-1, 3), (4, -1), (-1, -1)),
)

# Two pieces with the topmost weight (1, 2).
SIX = (
    ((1, 2), (-1, 2), (1, 0), (-1, 0), (1, -2), (-1, -2)),
    ((1, 2), (-1, 3), (3, 4), (-1, 5), (5, -1), (-1, -1)),
)

ALL = (ONE, ZERO, LINE, THREE, EIGHT, FIVE, SIX)

# falls and rises of each point and row, written by hand too.
FALLS = {
    ONE: ((1,), (0,)),
    ZERO: ((0,),),
    LINE: ((3,), (2,), (1,), (0,)),
    THREE: ((1, 0), (0, 1), (0, 0)),
    EIGHT: ((1, 1), (0, 2), (2, 0), (0, 1), (1, 0), (1, 0), (0, 1), (0, 0)),
    FIVE: ((1, 0), (0, 2), (0, 1), (1, 0), (0, 0)),
    SIX: ((1, 2), (0, 2), (1, 1), (0, 1), (1, 0), (0, 0)),
}

RISES = {
    ONE: ((0,), (1,)),
    ZERO: ((0,),),
    LINE: ((0,), (1,), (2,), (3,)),
    THREE: ((0, 0), (1, 0), (0, 1)),
    EIGHT: ((0, 0), (1, 0), (0, 1), (0, 1), (1, 0), (0, 2), (2, 0), (1, 1)),
    FIVE: ((0, 0), (1, 0), (0, 1), (0, 2), (1, 0)),
    SIX: ((0, 0), (1, 0), (0, 1), (1, 1), (0, 2), (1, 2)),
}

BEFORE = {
    ONE: ((-1,), (0,)),
    ZERO: ((-1,),),
    LINE: ((-1,), (0,), (1,), (2,)),
    THREE: ((-1, -1), (0, -1), (-1, 1)),
    EIGHT: ((-1, -1), (0, -1), (-1, 0), (-1, 1), (2, -1), (-1, 3), (4, -1), (5, 6)),
    FIVE: ((-1, -1), (0, -1), (-1, 1), (-1, 2), (3, -1)),
    SIX: ((-1, -1), (0, -1), (-1, 0), (2, 1), (-1, 2), (4, 3)),
}


def each_place():
    for crystal in ALL:
        for p, weight in enumerate(crystal[0]):
            for i in range(len(weight)):
                yield crystal, p, i


class Crystals(unittest.TestCase):
    def test_falls(self):
        for crystal, p, i in each_place():
            self.assertEqual(falls(crystal, p, i), FALLS[crystal][p][i])

    def test_rises(self):
        for crystal, p, i in each_place():
            self.assertEqual(rises(crystal, p, i), RISES[crystal][p][i])

    def test_before(self):
        for crystal, p, i in each_place():
            self.assertEqual(before(crystal, p, i), BEFORE[crystal][p][i])

    def test_falls_less_rises_is_the_entry(self):
        for crystal, p, i in each_place():
            self.assertEqual(falls(crystal, p, i) - rises(crystal, p, i), crystal[0][p][i])

    def test_before_undoes_the_arrow(self):
        for crystal, p, i in each_place():
            q = crystal[1][p][i]
            if q >= 0:
                self.assertEqual(before(crystal, q, i), p)
                self.assertEqual(falls(crystal, q, i), falls(crystal, p, i) - 1)
                self.assertEqual(rises(crystal, q, i), rises(crystal, p, i) + 1)

    def test_long_strings(self):
        line = (tuple((k,) for k in range(399, -400, -2)), tuple((p + 1,) for p in range(399)) + ((-1,),))
        for p in (0, 1, 57, 398, 399):
            self.assertEqual(falls(line, p, 0), 399 - p)
            self.assertEqual(rises(line, p, 0), p)
            self.assertEqual(before(line, p, 0), p - 1)
