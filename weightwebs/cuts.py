"""Webs cut along words, and the numbers of all weights that come of the whole word."""

from weightwebs.groups import longest_word
from weightwebs.numbers import WEB_LIMIT, check_size
from weightwebs.unders import inverse, steps_by
from weightwebs.weights import minus, stepped


def cut_down(matrix, sums, i):
    """Return the pairs that come of pairs (weight, integer) along the row i."""
    found = {}
    for v, n in sums:
        for w, many in _cut_pairs(v, n, matrix[i], i):
            found[w] = found.get(w, 0) + many
    return tuple(sorted([(w, many) for w, many in found.items() if many != 0]))


def cut_web(matrix, t, word):
    """Return the pairs (weight, number) of the part of the web of t that belongs to a word."""
    check_size(matrix, t, WEB_LIMIT)
    return _cut_along(matrix, t, word)


def numbers_by_cuts(matrix, t):
    """Return the pairs (topmost weight, number) of the web of t, found by cuts."""
    return tuple([(v, n) for v, n in all_numbers(matrix, t) if min(v) >= 0])


def all_numbers(matrix, t):
    """Return the pairs (weight, number) for all weights of the web of t."""
    check_size(matrix, t, WEB_LIMIT)
    return web_numbers(matrix, t)


def web_numbers(matrix, t):
    """Return what `all_numbers` does, for webs of any size."""
    return _cut_along(matrix, t, longest_word(matrix))


def depth_row(matrix, t):
    """Return the sums of the numbers of the weights 0, 1, 2 and so on steps below t."""
    undo = inverse(matrix)
    depths = [(sum(steps_by(undo, minus(t, v))), n) for v, n in all_numbers(matrix, t)]
    row = [0] * (max([depth for depth, _ in depths]) + 1)
    for depth, n in depths:
        row[depth] += n
    return tuple(row)


def _cut_along(matrix, t, word):
    sums = ((t, 1),)
    for i in reversed(word):
        sums = cut_down(matrix, sums, i)
    return sums


def _cut_pairs(v, n, root, i):
    if v[i] >= 0:
        return [(stepped(v, -k, root), n) for k in range(v[i] + 1)]
    return [(stepped(v, k, root), -n) for k in range(1, -v[i])]
