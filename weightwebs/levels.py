"""Levels of topmost weights, and products of webs up to a level, for a matrix of one piece."""

from weightwebs.cuts import web_numbers
from weightwebs.errors import TooMany
from weightwebs.numbers import size
from weightwebs.products import add_number, check_product, reflected_parts, told_pairs
from weightwebs.reflections import reflected
from weightwebs.roots import against, as_weight, tops
from weightwebs.weights import minus, ones, plus, stepped

LEVEL_LIMIT = 400


def level_of(matrix, t):
    """Return the level of a topmost weight."""
    return against(matrix, t, tops(matrix)[0])


def within_level(matrix, k):
    """Return all topmost weights of a level up to k, ascending."""
    marks = _marks(matrix)
    rows = [((), k)]
    for mark in marks:
        longer = []
        # Each of these begins a weight of its own, so they are never too many for the limit.
        for v, rest in rows:
            for entry in range(rest // mark + 1):
                longer.append((v + (entry,), rest - entry * mark))
                _check_many(longer)
        rows = longer
    return tuple([v for v, _ in rows])


def level_product(matrix, a, b, k):
    """Return the topmost weights and numbers of the product of a and b up to the level k."""
    check_product(size(matrix, a) * size(matrix, b))
    return _level_parts(matrix, web_numbers(matrix, a), b, k)


def level_table(matrix, a, k):
    """Return the rows of the numbers in the products of a with all weights of a level up to k."""
    weights = within_level(matrix, k)
    check_product(size(matrix, a) * _greatest_size(matrix, weights))
    numbers = web_numbers(matrix, a)
    rows = []
    for b in weights:
        row = {t: n for t, n in _level_parts(matrix, numbers, b, k)}
        rows.append(tuple([row.get(t, 0) for t in weights]))
    return tuple(rows)


def level_turns(matrix, k):
    """Return the weights of a level up to k whose table has just one 1 and otherwise 0 in each row."""
    weights = within_level(matrix, k)
    greatest = _greatest_size(matrix, weights)
    check_product(greatest * greatest)
    return tuple([a for a in weights if _turns(matrix, a, weights, k)])


def _marks(matrix):
    """Return the levels of the weights with a single 1."""
    rank = len(matrix)
    return [level_of(matrix, (0,) * i + (1,) + (0,) * (rank - i - 1)) for i in range(rank)]


def _check_many(weights):
    if len(weights) > LEVEL_LIMIT:
        raise TooMany(LEVEL_LIMIT)


def _greatest_size(matrix, weights):
    return max([size(matrix, t) for t in weights])


def _turns(matrix, a, weights, k):
    numbers = web_numbers(matrix, a)
    for b in weights:
        if [n for _, n in _level_parts(matrix, numbers, b, k)] != [1]:
            return False
    return True


def _level_parts(matrix, numbers, b, k):
    """Return the pairs of the product up to the level k with b of a web whose pairs are passed."""
    u = ones(matrix)
    top = tops(matrix)[0]
    step = as_weight(matrix, top)
    bound = k + against(matrix, u, top) + 1
    found = {}
    for t, n in reflected_parts(matrix, numbers, b).items():
        x, sign = _led_within(matrix, plus(t, u), top, step, bound)
        if x is not None:
            add_number(found, minus(x, u), sign * n)
    return told_pairs(found)


def _led_within(matrix, x, top, step, bound):
    """Return the weight with entries above 0 and below the bound to which reflections lead x, and the sign.

    The weight is None if x is led to where a reflection keeps it.
    """
    sign = 1
    while True:
        height = against(matrix, x, top)
        if min(x) > 0 and height < bound:
            return (x, sign)
        if 0 in x or height == bound:
            return (None, 0)
        below = [i for i, entry in enumerate(x) if entry < 0]
        x = reflected(matrix, x, below[0]) if below else stepped(x, bound - height, step)
        sign = -sign
