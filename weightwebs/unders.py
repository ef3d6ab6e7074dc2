"""Weights below a weight, and the steps between weights."""

from weightwebs.errors import TooMany
from weightwebs.roots import as_weight, positive_roots
from weightwebs.weights import minus

UNDER_LIMIT = 400


def is_under(matrix, a, b):
    """Tell whether b less a is a sum of simple roots."""
    steps = steps_between(matrix, a, b)
    return steps is not None and min(steps) >= 0


def steps_between(matrix, a, b):
    """Return the integers whose tuple, as a weight, is b less a, or None if there are none."""
    return steps_by(inverse(matrix), minus(b, a))


def under(matrix, t):
    """Return the topmost weights that lie under t, by the sums of the steps up to t and then ascending."""
    # Below any topmost weight all others are come to by taking off one positive root
    # at a time, with topmost weights all the way.
    steps = [(sum(c), as_weight(matrix, c)) for c in positive_roots(matrix)]
    depths = {t: 0}
    ahead = [t]
    while ahead:
        v = ahead.pop()
        for height, step in steps:
            w = minus(v, step)
            if min(w) >= 0 and w not in depths:
                depths[w] = depths[v] + height
                ahead.append(w)
        if len(depths) > UNDER_LIMIT:
            raise TooMany(UNDER_LIMIT)
    told = sorted([(depth, w) for w, depth in depths.items()])
    return tuple([w for _, w in told])


def inverse(matrix):
    """Return the determinant, and the inverse of the matrix times the determinant."""
    rows = range(len(matrix))
    undo = [tuple([_cofactor(matrix, j, i) for j in rows]) for i in rows]
    return (_determinant(matrix), tuple(undo))


def steps_by(undo, v):
    """Return the integers whose tuple, as a weight, is v, or None, by the inverse of the matrix."""
    whole, rows = undo
    sums = as_weight(rows, v)
    if any([entry % whole != 0 for entry in sums]):
        return None
    return tuple([entry // whole for entry in sums])


def _determinant(matrix):
    if len(matrix) == 0:
        return 1
    return sum([entry * _cofactor(matrix, 0, j) for j, entry in enumerate(matrix[0]) if entry != 0])


def _cofactor(matrix, i, j):
    rest = _determinant([row[:j] + row[j + 1:] for row in matrix[:i] + matrix[i + 1:]])
    return rest if (i + j) % 2 == 0 else -rest
