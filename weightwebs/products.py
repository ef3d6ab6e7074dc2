"""Two webs side by side, split into webs in four ways."""

from weightwebs.crystals import string_rows
from weightwebs.cuts import web_numbers
from weightwebs.errors import TooMany
from weightwebs.groups import topmost
from weightwebs.numbers import size
from weightwebs.paths import scaled, straight
from weightwebs.turns import opposite
from weightwebs.unders import inverse, steps_by
from weightwebs.webs import crystal, end_of, web_of_path
from weightwebs.weights import minus, ones, plus, stepped

PRODUCT_LIMIT = 1000


def product_by_reflections(matrix, a, b):
    """Return the webs in the product of those of a and b, found by moving weights to topmost ones."""
    check_product(size(matrix, a) * size(matrix, b))
    return told_pairs(reflected_parts(matrix, web_numbers(matrix, a), b))


def product_by_points(matrix, a, b):
    """Return the webs in the product of those of a and b, found by the points of the one of a."""
    check_product(size(matrix, a) * size(matrix, b))
    web = crystal(matrix, a)
    rises = [string_rows(web, i)[0] for i in range(len(matrix))]
    found = {}
    for p, v in enumerate(web[0]):
        if all([rise[p] <= entry for rise, entry in zip(rises, b)]):
            add_number(found, plus(v, b), 1)
    return told_pairs(found)


def product_by_walks(matrix, a, b):
    """Return the webs in the product of those of a and b, found by the paths of the one of a."""
    check_product(size(matrix, a) * size(matrix, b))
    paths, _ = web_of_path(matrix, scaled(straight(a)))
    found = {}
    for path in paths:
        scale, points = path
        if all([min(stepped(point, scale, b)) >= 0 for point in points]):
            add_number(found, plus(end_of(path), b), 1)
    return told_pairs(found)


def product_by_peeling(matrix, a, b):
    """Return the webs in the product of those of a and b, found by taking off web after web."""
    check_product(size(matrix, a) * size(matrix, b))
    left = _numbers_side_by_side(matrix, a, b)
    undo = inverse(matrix)
    # A weight that lies under another one has more steps up to a + b than that one.
    depths = sorted([(sum(steps_by(undo, minus(plus(a, b), v))), v) for v in left])
    found = {}
    for _, t in depths:
        n = left[t]
        if n > 0:
            found[t] = n
            for v, many in web_numbers(matrix, t):
                if v in left:
                    left[v] -= n * many
    return told_pairs(found)


def power_parts(matrix, t, k):
    """Return the webs in the product of k webs of t."""
    whole = size(matrix, t)
    many = 1
    for _ in range(k):
        many = many * whole
    check_product(many)
    found = {(0,) * len(matrix): 1}
    if k > 0:
        numbers = web_numbers(matrix, t)
        for _ in range(k):
            found = _one_more(matrix, numbers, found)
    return told_pairs(found)


def opposite_weight(matrix, t):
    """Return the weight with the entries of t in the places of the opposite rows."""
    return tuple([t[i] for i in opposite(matrix)])


def check_product(many):
    """Raise TooMany if a product of sizes is above the limit."""
    if many > PRODUCT_LIMIT:
        raise TooMany(PRODUCT_LIMIT)


def reflected_parts(matrix, numbers, b):
    """Return {topmost weight: number} for the web of b beside one whose pairs (weight, number) are passed."""
    u = ones(matrix)
    above = plus(b, u)
    found = {}
    for v, n in numbers:
        t, word = topmost(matrix, plus(v, above))
        if min(t) > 0:
            add_number(found, minus(t, u), n if len(word) % 2 == 0 else -n)
    return found


def add_number(found, v, n):
    """Add a number to that of a weight."""
    found[v] = found.get(v, 0) + n


def told_pairs(found):
    """Return the ascending pairs of the weights and their numbers other than 0."""
    return tuple(sorted([(v, n) for v, n in found.items() if n != 0]))


def _numbers_side_by_side(matrix, a, b):
    """Return {topmost weight: number} for the weights of both webs added up in pairs."""
    found = {}
    others = web_numbers(matrix, b)
    for v, n in web_numbers(matrix, a):
        for w, many in others:
            total = plus(v, w)
            if min(total) >= 0:
                add_number(found, total, n * many)
    return found


def _one_more(matrix, numbers, parts):
    found = {}
    for b, n in parts.items():
        for t, many in reflected_parts(matrix, numbers, b).items():
            add_number(found, t, n * many)
    return found
