"""The size of a web, and how often each weight comes in it, found in three ways."""

from weightwebs.errors import TooMany
from weightwebs.groups import orbit, signed_orbit
from weightwebs.partitions import partition_table, ways_in
from weightwebs.roots import as_weight, lengths, paired, positive_roots
from weightwebs.unders import inverse, steps_between, steps_by, under
from weightwebs.weights import minus, ones, plus

WEB_LIMIT = 600
PARTITION_LIMIT = 12


def size(matrix, t):
    """Return the sum of the numbers of all weights in the web of t."""
    # `against` divides by the squares of the roots, which are the same ones in both products.
    d = lengths(matrix)
    u = ones(matrix)
    above = 1
    below = 1
    for c in positive_roots(matrix):
        above = above * paired(d, plus(t, u), c)
        below = below * paired(d, u, c)
    return above // below


def check_size(matrix, t, most):
    """Raise TooMany if the size of the web of t is above a limit."""
    if size(matrix, t) > most:
        raise TooMany(most)


def numbers_by_strings(matrix, t):
    """Return the pairs (topmost weight, number) of the web of t, found by the strings of roots."""
    check_size(matrix, t, WEB_LIMIT)
    known = {}
    told = []
    # By falling depth: the weights on the strings through a weight are known before it.
    for v in under(matrix, t):
        n = 1 if v == t else _number_by_strings(matrix, t, v, known)
        told.append((v, n))
        for w in orbit(matrix, v):
            known[w] = n
    return tuple(sorted(told))


def partition_number(matrix, c):
    """Return the number of ways to write a root as a sum of positive roots."""
    if max(c) > PARTITION_LIMIT:
        raise TooMany(PARTITION_LIMIT)
    if min(c) < 0:
        return 0
    return partition_table(matrix, c, 1)[-1]


def numbers_by_partitions(matrix, t):
    """Return the pairs (topmost weight, number) of the web of t, found by partition numbers."""
    check_size(matrix, t, WEB_LIMIT)
    undo = inverse(matrix)
    top = plus(t, ones(matrix))
    # The steps up to the moved t + u are those up to t less those from there on up to t + u.
    less = [(sign, steps_by(undo, minus(top, w))) for w, sign in signed_orbit(matrix, top).items()]
    steps = [(v, steps_by(undo, minus(t, v))) for v in under(matrix, t)]
    most = tuple([max([row[i] for _, row in steps]) for i in range(len(matrix))])
    table = partition_table(matrix, most, 1)
    told = []
    for v, c in steps:
        n = sum([sign * ways_in(table, most, minus(c, lost)) for sign, lost in less])
        told.append((v, n))
    return tuple(sorted(told))


def numbers_by_signs(matrix, t):
    """Return the pairs (topmost weight, number) of the web of t, found by signs from the weights above."""
    check_size(matrix, t, WEB_LIMIT)
    u = ones(matrix)
    shifts = [(sign, minus(u, w)) for w, sign in signed_orbit(matrix, u).items() if w != u]
    known = {}
    told = []
    for v in under(matrix, t):
        n = 1 if v == t else -sum([sign * known.get(plus(v, shift), 0) for sign, shift in shifts])
        told.append((v, n))
        for w in orbit(matrix, v):
            known[w] = n
    return tuple(sorted(told))


def _number_by_strings(matrix, t, v, known):
    d = lengths(matrix)
    total = 0
    for c in positive_roots(matrix):
        step = as_weight(matrix, c)
        w = plus(v, step)
        # No string of a root has a gap, so behind the first 0 there are only zeros.
        while w in known:
            total += known[w] * paired(d, w, c)
            w = plus(w, step)
    middle = plus(plus(t, v), (2,) * len(matrix))
    return 2 * total // paired(d, middle, steps_between(matrix, v, t))
