"""Orbits of weights, and the group of all words."""

from weightwebs.reflections import reflected, way_up
from weightwebs.roots import exponents


def orbit(matrix, v):
    """Return all weights to which words move v, ascending."""
    reached = {v}
    ahead = [v]
    while ahead:
        w = ahead.pop()
        for i in range(len(matrix)):
            other = reflected(matrix, w, i)
            if other not in reached:
                reached.add(other)
                ahead.append(other)
    return tuple(sorted(reached))


def signed_orbit(matrix, v):
    """Return the weights to which words move v, each with 1 or -1 as the word's length is even or odd.

    Only for v with all entries above 0: then words that are not alike lead to different weights.
    """
    signs = {v: 1}
    ahead = [v]
    while ahead:
        w = ahead.pop()
        for i in range(len(matrix)):
            other = reflected(matrix, w, i)
            if other not in signs:
                signs[other] = -signs[w]
                ahead.append(other)
    return signs


def topmost(matrix, v):
    """Return the topmost weight of the orbit of v, and the first least word that moves it to v."""
    return way_up(matrix, v)


def group_size(matrix):
    """Return the number of words that are pairwise not alike."""
    many = 1
    for e in exponents(matrix):
        many = many * (e + 1)
    return many


def longest_word(matrix):
    """Return the first one of the least words of greatest length."""
    # Just these words move (1, .., 1) to (-1, .., -1).
    return way_up(matrix, (-1,) * len(matrix))[1]


def length_row(matrix):
    """Return the numbers of words, not two alike, of length 0, 1, 2 and so on."""
    row = [1]
    for e in exponents(matrix):
        row = _times_run(row, e)
    return tuple(row)


def _times_run(row, e):
    """Return the coefficients of the row's polynomial times 1 + x + .. + x^e."""
    out = [0] * (len(row) + e)
    for k, entry in enumerate(row):
        for step in range(e + 1):
            out[k + step] += entry
    return out
