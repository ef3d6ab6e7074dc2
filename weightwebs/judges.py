"""The judging of crystals."""

from itertools import combinations

from weightwebs.crystals import back_row, falls, grown, rises
from weightwebs.errors import NotCrystal
from weightwebs.matrices import is_row, listed
from weightwebs.numbers import size
from weightwebs.webs import CRYSTAL_LIMIT, crystal
from weightwebs.weights import minus


def crystal_breach(matrix, value):
    """Return None for the crystal of a topmost weight, otherwise the first broken rule and its place."""
    if not _has_form(value, len(matrix)):
        return ("form", -1)
    place = _back_place(value)
    if place is not None:
        return ("back", place)
    place = _number_place(value)
    if place is not None:
        return ("number", place)
    place = _weight_place(matrix, value)
    if place is not None:
        return ("weight", place)
    place = _string_place(value)
    if place is not None:
        return ("string", place)
    place = _pair_place(matrix, value)
    if place is not None:
        return ("pair", place)
    return None


def check_crystal(matrix, value):
    """Return the crystal of a topmost weight as it is, and raise NotCrystal for any other value."""
    breach = crystal_breach(matrix, value)
    if breach is not None:
        raise NotCrystal(breach[0], breach[1])
    return value


def _has_form(value, rank):
    if not isinstance(value, tuple) or len(value) != 2:
        return False
    weights, arrows = value
    if not isinstance(weights, tuple) or not isinstance(arrows, tuple):
        return False
    if not 1 <= len(weights) <= CRYSTAL_LIMIT or len(arrows) != len(weights):
        return False
    if not all([is_row(row, rank) for row in weights + arrows]):
        return False
    return all([-1 <= entry < len(weights) for row in arrows for entry in row])


def _back_place(value):
    places = []
    for i in range(len(value[0][0])):
        reached = sorted([row[i] for row in value[1] if row[i] >= 0])
        places.extend([p for p, q in zip(reached, reached[1:]) if p == q])
    return min(places, default=None)


def _number_place(value):
    come = 1
    for p, row in enumerate(value[1]):
        if p == come:
            return come
        for q in row:
            if q > come:
                return come
            if q == come:
                come += 1
    return None


def _weight_place(matrix, value):
    weights, arrows = value
    for p, row in enumerate(arrows):
        for i, q in enumerate(row):
            if q >= 0 and weights[q] != minus(weights[p], matrix[i]):
                return p
    return None


def _string_place(value):
    for p, weight in enumerate(value[0]):
        for i, entry in enumerate(weight):
            if falls(value, p, i) - rises(value, p, i) != entry:
                return p
    return None


def _pair_place(matrix, value):
    places = []
    for i, j in combinations(range(len(matrix)), 2):
        place = _place_in_parts(listed(matrix, (i, j)), _seen_by(value, i, j))
        if place is not None:
            places.append(place)
    return min(places, default=None)


def _seen_by(value, i, j):
    """Return the weights and the arrows with the entries i and j alone, the points as they are."""
    weights, arrows = value
    return (tuple([(v[i], v[j]) for v in weights]), tuple([(row[i], row[j]) for row in arrows]))


def _place_in_parts(matrix, value):
    """Return the least point of the first part that is no crystal of its first weight, or None."""
    backs = list(zip(back_row(value, 0), back_row(value, 1)))
    webs = {}
    for part in _parts(value[1], backs):
        firsts = [p for p in part if max(backs[p]) < 0]
        if len(firsts) != 1:
            return part[0]
        t = value[0][firsts[0]]
        if t not in webs:
            if size(matrix, t) != len(part):
                return part[0]
            webs[t] = crystal(matrix, t)
        if _numbered(value, firsts[0]) != webs[t]:
            return part[0]
    return None


def _parts(arrows, backs):
    """Return the lists of the points that hang together, each with its least point first, by these."""
    found = []
    seen = set()
    for first in range(len(arrows)):
        if first in seen:
            continue
        part = [first]
        seen.add(first)
        k = 0
        while k < len(part):
            near = arrows[part[k]] + backs[part[k]]
            for q in near:
                if q >= 0 and q not in seen:
                    seen.add(q)
                    part.append(q)
            k += 1
        found.append(part)
    return found


def _numbered(value, first):
    """Return the crystal of the points that one comes to from the first one, numbered as one comes to them."""
    weights, arrows = value
    points, rows = grown(first, len(weights[first]), lambda p, i: arrows[p][i] if arrows[p][i] >= 0 else None)
    return (tuple([weights[p] for p in points]), rows)
