"""Webs and their numbers, found plainly and without the package; and weights to test with."""

from fractions import Fraction
from functools import lru_cache
from itertools import product
from math import lcm
from operator import mul

from tests.samples import plain_matrix, plain_reflected


def plain_sum(v, w, k=1):
    """v plus k times w."""
    return tuple(a + k * b for a, b in zip(v, w))


def plain_weight(matrix, c):
    return tuple(sum(c[i] * matrix[i][j] for i in range(len(matrix))) for j in range(len(matrix)))


@lru_cache(maxsize=None)
def plain_roots(matrix):
    """All positive roots: every root to which the simple ones are moved, as long as it is positive."""
    rank = len(matrix)
    found = {tuple(int(j == i) for j in range(rank)) for i in range(rank)}
    ahead = list(found)
    while ahead:
        c = ahead.pop()
        w = plain_weight(matrix, c)
        for i in range(rank):
            other = c[:i] + (c[i] - w[i],) + c[i + 1:]
            if min(other) >= 0 and other not in found:
                found.add(other)
                ahead.append(other)
    return tuple(sorted(found))


@lru_cache(maxsize=None)
def plain_lengths(matrix):
    """The lengths up to one factor for each piece, as ratios."""
    found = {}
    for first in range(len(matrix)):
        if first not in found:
            found[first] = Fraction(1)
            ahead = [first]
            while ahead:
                i = ahead.pop()
                for j in range(len(matrix)):
                    if matrix[i][j] != 0 and j not in found:
                        found[j] = found[i] * matrix[j][i] / matrix[i][j]
                        ahead.append(j)
    return tuple(found[i] for i in range(len(matrix)))


def plain_against(matrix, v, c):
    d = plain_lengths(matrix)
    w = plain_weight(matrix, c)
    return 2 * sum(c[i] * d[i] * v[i] for i in range(len(c))) / sum(c[i] * d[i] * w[i] for i in range(len(c)))


@lru_cache(maxsize=None)
def plain_size(matrix, t):
    u = (1,) * len(matrix)
    size = Fraction(1)
    for c in plain_roots(matrix):
        size = size * plain_against(matrix, plain_sum(t, u), c) / plain_against(matrix, u, c)
    assert size.denominator == 1
    return int(size)


@lru_cache(maxsize=None)
def plain_inverse(matrix):
    """For each weight with a single 1 the ratios s with the sum of s_i times the simple root i equal to it."""
    rank = len(matrix)
    rows = [[Fraction(matrix[i][j]) for i in range(rank)] + [Fraction(int(j == k)) for k in range(rank)]
            for j in range(rank)]
    for k in range(rank):
        pivot = next(row for row in rows[k:] if row[k] != 0)
        rows.remove(pivot)
        rows.insert(k, [entry / pivot[k] for entry in pivot])
        for m in range(rank):
            if m != k:
                rows[m] = [a - rows[m][k] * b for a, b in zip(rows[m], rows[k])]
    return tuple(tuple(rows[i][rank + k] for i in range(rank)) for k in range(rank))


def plain_steps(matrix, v):
    """The ratios s with the sum of s_i times the simple root i equal to v."""
    return tuple(sum(entry * row[i] for entry, row in zip(v, plain_inverse(matrix))) for i in range(len(v)))


def plain_under(matrix, t):
    """All topmost weights under t: every tuple of steps that could lead to one is tried."""
    most = plain_steps(matrix, t)
    found = []
    for s in product(*[range(int(step) + 1) for step in most]):
        v = plain_sum(t, plain_weight(matrix, s), -1)
        if min(v) >= 0:
            found.append((sum(s), v))
    return tuple(v for _, v in sorted(found))


def plain_signs(matrix, v):
    """The weights to which a weight with entries above 0 is moved, each with the sign of its words."""
    signs = {v: 1}
    ahead = [v]
    while ahead:
        w = ahead.pop()
        for i in range(len(matrix)):
            other = plain_reflected(matrix, w, i)
            if other not in signs:
                signs[other] = -signs[w]
                ahead.append(other)
    return signs


@lru_cache(maxsize=None)
def plain_heights(matrix):
    """Integers h with the sum of h_i v_i the sum of the steps of a weight v, but for one factor."""
    sums = [sum(row) for row in plain_inverse(matrix)]
    return tuple(int(entry * lcm(*[other.denominator for other in sums])) for entry in sums)


@lru_cache(maxsize=None)
def plain_web(matrix, t):
    """The numbers of all weights of a web: the alternating sum of t + u divided by that of u.

    It is divided as one divides polynomials, the weight of least depth first.
    """
    u = (1,) * len(matrix)
    divisor = plain_signs(matrix, u)
    left = plain_signs(matrix, plain_sum(t, u))
    heights = plain_heights(matrix)
    found = {}
    while left:
        top = max(left, key=lambda w: sum(map(mul, heights, w)))
        n = left[top]
        v = plain_sum(top, u, -1)
        found[v] = n
        for other, sign in divisor.items():
            place = plain_sum(v, other)
            left[place] = left.get(place, 0) - n * sign
            if left[place] == 0:
                del left[place]
    return found


def plain_numbers(matrix, t):
    return tuple(sorted((v, n) for v, n in plain_web(matrix, t).items() if min(v) >= 0))


@lru_cache(maxsize=None)
def tops_up_to(matrix, most):
    """All topmost weights with webs of a size up to most."""
    rank = len(matrix)
    found = [(0,) * rank]
    for v in found:
        for i in range(rank):
            other = v[:i] + (v[i] + 1,) + v[i + 1:]
            if other not in found and plain_size(matrix, other) <= most:
                found.append(other)
    return sorted(found)


def listed_anew(v, listing):
    """The weight v as it is when the rows and entries of the matrix are listed so."""
    return tuple(v[k] for k in listing)


# Every simple name, and several pieces; for each one weights that together set every entry above 0.
WEBS = (
    ("A1", ((0,), (1,), (2,), (7,), (30,))),
    ("A2", ((0, 0), (1, 0), (1, 1), (3, 1), (2, 2), (0, 5))),
    ("B2", ((0, 0), (1, 0), (0, 1), (1, 1), (0, 3), (2, 2))),
    ("G2", ((0, 0), (1, 0), (0, 1), (1, 1), (0, 2), (2, 0))),
    ("A1+A1", ((0, 0), (1, 2), (3, 0))),
    ("A3", ((1, 0, 0), (1, 1, 1), (0, 2, 1), (2, 0, 1))),
    ("B3", ((1, 0, 0), (0, 0, 1), (1, 0, 1), (0, 1, 0), (1, 1, 0))),
    ("C3", ((1, 0, 0), (0, 1, 0), (0, 0, 1), (1, 1, 0), (2, 0, 1))),
    ("A1+A2", ((1, 1, 1), (2, 0, 2))),
    ("A1+B2", ((1, 1, 1), (2, 0, 1))),
    ("A1+G2", ((1, 0, 1), (2, 1, 0))),
    ("A1+A1+A1", ((1, 2, 3),)),
    ("A4", ((1, 0, 0, 1), (0, 1, 1, 0), (1, 1, 0, 0), (0, 0, 2, 1))),
    ("B4", ((0, 0, 0, 1), (1, 0, 0, 0), (0, 1, 0, 0), (1, 0, 0, 1))),
    ("C4", ((1, 0, 0, 0), (0, 1, 0, 0), (2, 0, 0, 0), (0, 0, 0, 1), (1, 0, 1, 0))),
    ("D4", ((1, 0, 0, 0), (0, 1, 0, 0), (0, 0, 1, 1), (1, 0, 1, 1))),
    ("F4", ((0, 0, 0, 1), (1, 0, 0, 0), (0, 0, 1, 0))),
    ("A1+A3", ((1, 1, 0, 1), (3, 0, 1, 0))),
    ("A1+C3", ((1, 1, 0, 0), (1, 0, 0, 1))),
    ("A2+B2", ((1, 0, 0, 1), (1, 1, 1, 0))),
    ("B2+G2", ((0, 1, 1, 0), (1, 0, 0, 1))),
    ("A1+A1+A2", ((1, 2, 1, 1),)),
    ("A1+A1+A1+A1", ((1, 2, 0, 3), (2, 2, 2, 2))),
)


def listed_webs(most):
    """Pairs (matrix, t) as WEBS has them, up to a size, the matrix as named and with its rows turned about."""
    found = []
    for name, tops in WEBS:
        matrix = plain_matrix(name)
        for t in tops:
            if plain_size(matrix, t) <= most:
                found.append((matrix, t))
                turned = tuple(row[::-1] for row in matrix[::-1])
                if turned != matrix or t[::-1] != t:
                    found.append((turned, t[::-1]))
    return found


def spread(rows, many):
    """About so many of the rows, from the first to near the last."""
    return rows[::max(1, len(rows) // many)]
