"""Tables of the ways to write roots as sums of positive roots."""

from weightwebs.roots import positive_roots


def partition_table(matrix, most, x):
    """Return the ways to write each tuple from zeros up to most, in ascending sequence, as a sum of positive roots.

    A way with k roots counts x, k times multiplied: it counts 1 if x is 1.
    """
    table = [0] * len(_places((0,) * len(most), most))
    table[0] = 1
    for c in positive_roots(matrix):
        back = _place(c, most)
        for k in _places(c, most):
            table[k] += x * table[k - back]
    return table


def ways_in(table, most, c):
    """Return what a table up to most tells of a tuple up to most, and 0 if an entry is less than 0."""
    return 0 if min(c) < 0 else table[_place(c, most)]


def _place(c, most):
    """Return the place of a tuple among all tuples from zeros up to most."""
    k = 0
    for entry, greatest in zip(c, most):
        k = k * (greatest + 1) + entry
    return k


def _places(c, most):
    """Return, ascending, the places of all tuples from c up to most."""
    found = [0]
    for entry, greatest in zip(c, most):
        found = [k * (greatest + 1) + x for k in found for x in range(entry, greatest + 1)]
    return found
