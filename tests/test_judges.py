"""Promise [20]."""

import unittest
from functools import lru_cache
from itertools import combinations

from tests.plain_paths import plain_crystal, plain_numbered
from tests.plain_webs import WEBS, listed_anew, listed_webs, plain_size, plain_sum, plain_web, tops_up_to
from tests.samples import ALL_NAMES, all_listed, plain_listed, plain_matrix
from tests.test_crystals import EIGHT, FIVE, LINE, ONE, SIX, THREE, ZERO
from weightwebs.errors import NotCrystal
from weightwebs.judges import check_crystal, crystal_breach
from weightwebs.webs import crystal

HAND = (("A1", ONE), ("A1", ZERO), ("A1", LINE), ("A2", THREE), ("A2", EIGHT), ("B2", FIVE), ("A1+A1", SIX))

small_crystal = lru_cache(maxsize=None)(plain_crystal)


def hanging(arrows, rows):
    """The sets of points that hang together by arrows of some rows."""
    lots = [{p} for p in range(len(arrows))]
    for p, row in enumerate(arrows):
        for i in rows:
            if row[i] >= 0:
                first = next(lot for lot in lots if p in lot)
                other = next(lot for lot in lots if row[i] in lot)
                if first is not other:
                    lots.remove(other)
                    first |= other
    return lots


def plain_run(arrows, p, i):
    return 0 if arrows[p][i] < 0 else 1 + plain_run(arrows, arrows[p][i], i)


def plain_rise(arrows, p, i):
    return sum(1 + plain_rise(arrows, q, i) for q in range(len(arrows)) if arrows[q][i] == p)


def plain_pair(matrix, value, lot, rows):
    """Whether a part of a crystal is what the rule "pair" wants."""
    weights, arrows = value
    led_to = {arrows[p][i] for p in lot for i in rows}
    firsts = [p for p in lot if p not in led_to]
    if len(firsts) != 1:
        return False
    part = plain_listed(matrix, rows)
    t = tuple(weights[firsts[0]][i] for i in rows)
    if plain_size(part, t) != len(lot):
        return False
    seen = tuple(tuple(weight[i] for i in rows) for weight in weights)
    kept = tuple(tuple(row[i] for i in rows) for row in arrows)
    return plain_numbered(seen, kept, firsts[0]) == small_crystal(part, t)


def plain_breach(matrix, value):
    """The first broken rule and its place of a value that has the form, by the words of the document."""
    weights, arrows = value
    points, rows = range(len(arrows)), range(len(matrix))
    back = [p for p in points for i in rows if sum(row[i] == p for row in arrows) > 1]
    if back:
        return ("back", min(back))
    come = [0]
    for p in points:
        if p == len(come):
            return ("number", p)
        for q in arrows[p]:
            if q >= 0 and q not in come:
                come.append(q)
                if q != len(come) - 1:
                    return ("number", len(come) - 1)
    for p in points:
        for i, q in enumerate(arrows[p]):
            if q >= 0 and weights[q] != plain_sum(weights[p], matrix[i], -1):
                return ("weight", p)
    for p in points:
        for i in rows:
            if plain_run(arrows, p, i) - plain_rise(arrows, p, i) != weights[p][i]:
                return ("string", p)
    places = [min(lot) for pair in combinations(rows, 2) for lot in hanging(arrows, pair)
              if not plain_pair(matrix, value, lot, pair)]
    return ("pair", min(places)) if places else None


def with_arrow(value, p, i, q):
    weights, arrows = value
    row = arrows[p][:i] + (q,) + arrows[p][i + 1:]
    return (weights, arrows[:p] + (row,) + arrows[p + 1:])


def with_weight(value, p, weight):
    weights, arrows = value
    return (weights[:p] + (weight,) + weights[p + 1:], arrows)


def exchanged(value, p, q, i):
    """The value with the arrows i of two points exchanged, numbered anew."""
    arrows = value[1]
    other = with_arrow(with_arrow(value, p, i, arrows[q][i]), q, i, arrows[p][i])
    return plain_numbered(*other)


class Crystals(unittest.TestCase):
    def check_good(self, matrix, value):
        self.assertIsNone(crystal_breach(matrix, value))
        self.assertIs(check_crystal(matrix, value), value)

    def test_by_hand(self):
        for name, value in HAND:
            self.check_good(plain_matrix(name), value)

    def test_crystals_of_many_weights(self):
        for matrix, t in listed_webs(400):
            self.check_good(matrix, crystal(matrix, t))

    def test_every_listing(self):
        for name in ALL_NAMES:
            for matrix in all_listed(name):
                for t in ((0,) * len(matrix), (1, 0, 0, 0)[:len(matrix)], (0, 1, 0, 1)[-len(matrix):]):
                    if plain_size(matrix, t) <= 80:
                        self.check_good(matrix, crystal(matrix, t))

    def test_many_small_weights(self):
        for name in ("A1", "A2", "B2", "G2", "A1+A1", "A3", "B3", "C3", "A1+A2"):
            matrix = plain_matrix(name)
            for t in tops_up_to(matrix, 50):
                self.check_good(matrix, crystal(matrix, t))

    def test_400_points(self):
        for name, t in (("A1", (399,)), ("A1+A1", (19, 19)), ("A1+B2", (4, 3, 1)), ("A1+A3", (7, 0, 3, 0))):
            value = crystal(plain_matrix(name), t)
            self.assertEqual(len(value[0]), 400)
            self.check_good(plain_matrix(name), value)

    def test_for_another_matrix(self):
        self.assertEqual(crystal_breach(plain_matrix("A1+A1"), EIGHT), ("weight", 0))
        self.assertEqual(crystal_breach(plain_matrix("B2"), THREE), ("weight", 0))
        self.assertEqual(crystal_breach(plain_matrix("A3"), EIGHT), ("form", -1))
        self.assertEqual(crystal_breach(plain_matrix("A1"), EIGHT), ("form", -1))


class Form(unittest.TestCase):
    def check_form(self, name, value):
        matrix = plain_matrix(name)
        self.assertEqual(crystal_breach(matrix, value), ("form", -1))
        with self.assertRaises(NotCrystal) as caught:
            check_crystal(matrix, value)
        self.assertEqual((caught.exception.rule, caught.exception.place), ("form", -1))

    def test_values_of_other_kinds(self):
        for value in (None, True, 0, 2, "", "ab", b"ab", (), [], {}, set(), 1.5, object(), int, lambda: 0,
                      list(ONE), {0: 1, 1: 2}, (1,), (1, 2), ("ab", "cd"), (None, None), ((), ()),
                      ONE + ((),), ONE[:1], (ONE,), (ONE, ONE)):
            self.check_form("A1", value)
            self.check_form("A2", value)

    def test_weights_and_arrows_of_other_kinds(self):
        for other in (None, 0, True, "ab", [], list(ONE[0]), {}, (), 2.0):
            self.check_form("A1", (other, ONE[1]))
            self.check_form("A1", (ONE[0], other))

    def test_not_as_many_of_both(self):
        self.check_form("A1", (ONE[0], ONE[1] + ((-1,),)))
        self.check_form("A1", (ONE[0] + ((-3,),), ONE[1]))
        self.check_form("A2", (THREE[0][:2], THREE[1]))
        self.check_form("A1", (((1,),), ()))
        self.check_form("A1", ((), ((-1,),)))

    def test_one_weight_or_one_row(self):
        for other in (None, 1, True, "a", [1, 0], (), (1,), (1, 0, 0), {}, ((1, 0),), {1: 0, 0: 1}):
            for p in range(3):
                self.check_form("A2", with_weight(THREE, p, other))
                arrows = THREE[1]
                self.check_form("A2", (THREE[0], arrows[:p] + (other,) + arrows[p + 1:]))

    def test_one_entry(self):
        for other in (None, True, False, "1", 1.0, 0.0, -1.0, (), (1,), [1], b"1"):
            for p in range(3):
                for i in range(2):
                    weight = THREE[0][p][:i] + (other,) + THREE[0][p][i + 1:]
                    self.check_form("A2", with_weight(THREE, p, weight))
                    self.check_form("A2", with_arrow(THREE, p, i, other))

    def test_entries_of_arrows(self):
        for p in range(3):
            for i in range(2):
                for entry in (-2, -3, -10 ** 30, 3, 4, 10 ** 30):
                    self.check_form("A2", with_arrow(THREE, p, i, entry))
                for entry in (-1, 0, 1, 2):
                    told = crystal_breach(plain_matrix("A2"), with_arrow(THREE, p, i, entry))
                    self.assertNotEqual(told, ("form", -1))
        self.check_form("A1", (((0,),), ((1,),)))
        self.assertEqual(crystal_breach(plain_matrix("A1"), (((0,),), ((0,),))), ("weight", 0))

    def test_how_many_points(self):
        def line(many):
            weights = tuple((many - 1 - 2 * k,) for k in range(many))
            return (weights, tuple((k + 1,) for k in range(many - 1)) + ((-1,),))
        matrix = plain_matrix("A1")
        self.assertIsNone(crystal_breach(matrix, line(400)))
        self.check_form("A1", line(401))
        self.check_form("A1", line(1000))
        alone = tuple((0,) for _ in range(401))
        self.check_form("A1", (alone, tuple((-1,) for _ in range(401))))
        self.assertEqual(crystal_breach(matrix, (alone[:400], tuple((-1,) for _ in range(400)))), ("number", 1))


class Rules(unittest.TestCase):
    def check(self, name, value, breach):
        matrix = plain_matrix(name)
        self.assertEqual(crystal_breach(matrix, value), breach)
        self.assertEqual(plain_breach(matrix, value), breach)
        with self.assertRaises(NotCrystal) as caught:
            check_crystal(matrix, value)
        self.assertEqual((caught.exception.rule, caught.exception.place), breach)

    def test_back(self):
        self.check("A1", with_arrow(ONE, 1, 0, 1), ("back", 1))
        self.check("A1", with_arrow(LINE, 3, 0, 2), ("back", 2))
        self.check("A2", with_arrow(EIGHT, 0, 1, 3), ("back", 3))
        self.check("A2", with_arrow(EIGHT, 7, 0, 1), ("back", 1))
        self.check("A1", (((1,), (-1,)), ((0,), (0,))), ("back", 0))
        self.check("A2", with_arrow(with_arrow(THREE, 1, 0, 0), 2, 0, 0), ("back", 0))
        # The least of several points, though it is met behind the other one and in a greater row.
        self.check("A2", with_arrow(with_arrow(EIGHT, 0, 0, 7), 7, 1, 2), ("back", 2))
        self.check("A2", with_arrow(with_arrow(EIGHT, 1, 1, 2), 2, 0, 1), ("back", 1))

    def test_two_rows_may_lead_to_one_point(self):
        self.assertIsNone(crystal_breach(plain_matrix("A2"), EIGHT))
        self.check("A1+A1", (((1, 1), (-1, 1)), ((1, 1), (-1, -1))), ("weight", 0))

    def test_number(self):
        self.check("A1", (ZERO[0] * 2, ZERO[1] * 2), ("number", 1))
        self.check("A1", (((2,), (-2,), (0,)), ((2,), (-1,), (1,))), ("number", 1))
        self.check("A1", (((1,), (-1,), (0,)), ((1,), (-1,), (-1,))), ("number", 2))
        self.check("A1", (((1,), (-1,), (0,)), ((1,), (-1,), (2,))), ("number", 2))
        self.check("A2", (THREE[0], ((-1, 1), (2, -1), (-1, -1))), ("weight", 0))
        # Points 3 and 4 told in the other sequence.
        weights, arrows = EIGHT
        rows = ((1, 2), (-1, 4), (3, -1), (6, -1), (-1, 5), (7, -1), (-1, 7), (-1, -1))
        self.check("A2", (weights, rows), ("number", 3))
        # The arrow 1 of point 0 told before its arrow 0.
        rows = ((2, 1), (4, -1), (-1, 3), (-1, 5), (6, -1), (7, -1), (-1, 7), (-1, -1))
        self.check("A2", (weights, rows), ("number", 1))
        # Point 0 is not come to again, nor is one that has its number.
        self.check("A1", (((1,), (-1,)), ((1,), (0,))), ("weight", 1))
        self.check("A1", (((0,), (0,), (0,)), ((1,), (0,), (2,))), ("number", 2))

    def test_weight(self):
        self.check("A1", (((1,), (0,)), ONE[1]), ("weight", 0))
        self.check("A1", with_weight(LINE, 2, (-2,)), ("weight", 1))
        self.check("A2", with_weight(EIGHT, 7, (-1, -2)), ("weight", 5))
        self.check("A2", with_weight(EIGHT, 0, (1, 2)), ("weight", 0))
        self.check("A2", with_weight(EIGHT, 4, (0, 1)), ("weight", 2))
        self.check("B2", with_weight(FIVE, 1, (-1, 1)), ("weight", 0))
        self.check("A1", (((0,),), ((0,),)), ("weight", 0))

    def test_string(self):
        self.check("A1", (((1,),), ((-1,),)), ("string", 0))
        self.check("A1", (((-1,),), ((-1,),)), ("string", 0))
        self.check("A2", (((0, 1),), ((-1, -1),)), ("string", 0))
        self.check("F4", (((0, 0, 0, 10 ** 30),), ((-1, -1, -1, -1),)), ("string", 0))
        self.check("A1", (((3,), (1,), (-1,)), ((1,), (2,), (-1,))), ("string", 0))
        # The string is long enough at its first two points, but another row ends too early.
        self.check("A2", (((1, 0), (-1, 1)), ((1, -1), (-1, -1))), ("string", 1))
        self.check("A2", (THREE[0][:2] + ((0, -1), (-2, 0)), ((1, -1), (-1, 2), (3, -1), (-1, -1))), ("string", 2))
        self.check("A1+A1", (((1, 1), (-1, 1), (1, -1)), ((1, 2), (-1, -1), (-1, -1))), ("string", 1))
        # Taken twice, a web of two points has the strings but not the numbers.
        self.check("A1+A1", (((1, 1), (-1, 1), (1, -1), (-1, -1), (-1, -1)),
                             ((1, 2), (-1, 3), (4, -1), (-1, -1), (-1, -1))), ("string", 3))

    def test_pair(self):
        # Two ways from point 0 that do not come together again.
        value = (((1, 1), (-1, 2), (2, -1), (0, 0), (0, 0), (1, -2), (-2, 1), (-1, -1), (-1, -1)), (
            (1, 2), (-1, 3), (4, -1), (-1, 5), (6, -1), (7, -1), (-1, 8), (-1, -1), (-1, -1),
        ))
        self.check("A2", value, ("string", 7))
        # A square in which the arrows of one row go crosswise.
        value = (
            ((1, 2), (-1, 2), (1, 0), (-1, 0), (1, -2), (-1, -2)),
            ((1, 2), (-1, 3), (5, 4), (-1, 5), (3, -1), (-1, -1)),
        )
        self.check("A1+A1", value, ("number", 4))

    def exchanges(self, most):
        """Crystals with the arrows of two points exchanged that lie at one place on strings of one form."""
        for name, tops in WEBS + (("A2", ((3, 3),)), ("A3", ((2, 1, 0), (0, 3, 0)))):
            matrix = plain_matrix(name)
            for t in tops:
                if plain_size(matrix, t) <= most:
                    weights, arrows = value = crystal(matrix, t)
                    for i in range(len(matrix)):
                        place = [(weights[p], plain_run(arrows, p, i)) for p in range(len(weights))]
                        for p, q in combinations(range(len(weights)), 2):
                            if place[p] == place[q] and arrows[p][i] >= 0:
                                yield matrix, value, exchanged(value, p, q, i)

    def test_pair_by_exchanges(self):
        told = {}
        for matrix, value, other in self.exchanges(70):
            breach = crystal_breach(matrix, other)
            self.assertEqual(breach, plain_breach(matrix, other))
            self.assertEqual(breach is None, other == value)
            self.assertIn(breach and breach[0], (None, "pair"))
            told[breach] = told.get(breach, 0) + 1
        self.assertGreater(len(told), 5)
        self.assertGreater(sum(many for breach, many in told.items() if breach), 100)

    def test_pair_of_later_rows(self):
        # The exchange is seen by some pairs of rows only; the least point of all their parts is told.
        matrix = plain_matrix("A3")
        value = crystal(matrix, (1, 1, 1))
        found = set()
        for p, q in combinations(range(64), 2):
            same = value[0][p] == value[0][q] and min(value[1][p][2], value[1][q][2]) >= 0
            if same and plain_run(value[1], p, 2) == plain_run(value[1], q, 2):
                other = exchanged(value, p, q, 2)
                breach = crystal_breach(matrix, other)
                self.assertEqual(breach, plain_breach(matrix, other))
                found.add(breach)
        self.assertGreater(len(found), 1)

    def test_parts_with_the_wrong_number_of_points(self):
        matrix = plain_matrix("A1+A1")
        weights = ((1, 1), (-1, 1), (1, -1), (-1, -1))
        self.assertIsNone(crystal_breach(matrix, (weights, ((1, 2), (-1, 3), (3, -1), (-1, -1)))))
        # All strings are right, but they do not cross in nine points.
        twice = (
            ((2, 2), (0, 2), (2, 0), (-2, 2), (0, 0), (0, 0), (2, -2), (-2, 0), (0, -2), (-2, -2)),
            ((1, 2), (3, 4), (5, 6), (-1, 7), (-1, 8), (7, -1), (8, -1), (-1, 9), (9, -1), (-1, -1)),
        )
        self.check("A1+A1", twice, ("pair", 0))

    def test_each_weight_once(self):
        # All strings are right as well if each weight has one point only.
        for name, t, breach in (
            ("A2", (1, 1), ("pair", 0)),
            ("A2", (3, 0), None),
            ("G2", (0, 1), ("pair", 0)),
            ("A3", (1, 0, 1), ("pair", 1)),
            ("A4", (1, 0, 0, 1), ("pair", 3)),
            ("D4", (1, 0, 0, 0), None),
            ("A1+A2", (1, 1, 1), ("pair", 0)),
        ):
            matrix = plain_matrix(name)
            value = self.weights_alone(matrix, t)
            self.assertEqual(crystal_breach(matrix, value), plain_breach(matrix, value))
            self.assertEqual(crystal_breach(matrix, value), breach)

    def test_no_error_for_a_part_with_a_great_web(self):
        for name, t in (("A2", (8, 8)), ("B2", (5, 5)), ("G2", (3, 2)), ("A1+A2", (0, 7, 9))):
            matrix = plain_matrix(name)
            value = self.weights_alone(matrix, t)
            self.assertLessEqual(len(value[0]), 400)
            self.assertGreater(plain_size(matrix, t), 400)
            self.check(name, value, ("pair", 0))

    def weights_alone(self, matrix, t):
        """The weights of a web, each at one point, with all arrows between them."""
        weights = [t] + sorted(v for v in plain_web(matrix, t) if v != t)
        arrows = []
        for v in weights:
            lower = [plain_sum(v, root, -1) for root in matrix]
            arrows.append(tuple(weights.index(w) if w in weights else -1 for w in lower))
        return plain_numbered(weights, arrows)

    def test_every_small_change(self):
        """One entry of a crystal changed, each in turn, and judged by the words of the document."""
        rules = set()
        for name, value in HAND + (("G2", crystal(plain_matrix("G2"), (1, 0))),
                                   ("A3", crystal(plain_matrix("A3"), (0, 1, 0))),
                                   ("B2", crystal(plain_matrix("B2"), (0, 2)))):
            matrix = plain_matrix(name)
            for p in range(len(value[0])):
                for i in range(len(matrix)):
                    for q in range(-1, len(value[0])):
                        other = with_arrow(value, p, i, q)
                        breach = crystal_breach(matrix, other)
                        self.assertEqual(breach, plain_breach(matrix, other))
                        rules.add(breach and breach[0])
                    for more in (-2, -1, 1, 2):
                        weight = plain_sum(value[0][p], tuple(int(j == i) for j in range(len(matrix))), more)
                        other = with_weight(value, p, weight)
                        self.assertEqual(crystal_breach(matrix, other), plain_breach(matrix, other))
        self.assertEqual(rules, {None, "back", "number", "weight", "string"})

    def test_other_numberings(self):
        """Two points exchanged in the whole crystal."""
        for name, value in HAND + (("A3", crystal(plain_matrix("A3"), (1, 0, 1))),):
            matrix = plain_matrix(name)
            many = len(value[0])
            for p, q in combinations(range(many), 2):
                listing = list(range(many))
                listing[p], listing[q] = q, p
                weights = listed_anew(value[0], listing)
                arrows = tuple(tuple(k if k < 0 else listing[k] for k in row)
                               for row in listed_anew(value[1], listing))
                breach = crystal_breach(matrix, (weights, arrows))
                self.assertEqual(breach, plain_breach(matrix, (weights, arrows)))
                self.assertEqual(breach[0], "number")

    def test_two_webs(self):
        # Each web alone is a crystal, but not all points are come to from point 0.
        for name in ("A1", "A2", "G2"):
            matrix = plain_matrix(name)
            first = crystal(matrix, (1, 0)[:len(matrix)])
            many = len(first[0])
            rows = tuple(tuple(k if k < 0 else k + many for k in row) for row in first[1])
            self.check(name, (first[0] * 2, first[1] + rows), ("number", many))
