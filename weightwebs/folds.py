"""Turnings of a matrix, and matrices and crystals folded by them."""

from itertools import permutations

from weightwebs.crystals import grown
from weightwebs.matrices import listed
from weightwebs.parts import seen
from weightwebs.paths import straight
from weightwebs.webs import crystal_of_path


def turnings(matrix):
    """Return the listings of the rows that keep the matrix, ascending."""
    return tuple([listing for listing in permutations(range(len(matrix))) if listed(matrix, listing) == matrix])


def points_turned(crystal, listing):
    """Return all points in the sequence that takes point 0 to itself and each arrow i to the arrow listing[i]."""
    arrows = crystal[1]
    found = {0: 0}
    # Each point but point 0 is come to from a point that stands ahead of it.
    for p, row in enumerate(arrows):
        for i, q in enumerate(row):
            if q >= 0:
                found[q] = arrows[found[p]][listing[i]]
    return tuple([found[p] for p in range(len(arrows))])


def even_points(crystal, listing):
    """Return the points that a turning takes to themselves, ascending."""
    return tuple([p for p, q in enumerate(points_turned(crystal, listing)) if p == q])


def rounds(listing):
    """Return the tuples of the rows that a turning leads to one another."""
    found = []
    for i in range(len(listing)):
        lot = [i]
        while listing[lot[-1]] != i:
            lot.append(listing[lot[-1]])
        if min(lot) == i:
            found.append(tuple(sorted(lot)))
    return tuple(found)


def is_loose(matrix, listing):
    """Tell whether no two rows of one round hang together."""
    return all([i == j or matrix[i][j] == 0 for lot in rounds(listing) for i in lot for j in lot])


def folded_matrix(matrix, listing):
    """Return the matrix with a row and an entry for each round."""
    lots = rounds(listing)
    return tuple([tuple([sum([matrix[i][lot[0]] for i in row]) for lot in lots]) for row in lots])


def folded_web(matrix, t, listing):
    """Return the crystal of the even points of the crystal of t, its arrows those of whole rounds."""
    weights, arrows = crystal_of_path(matrix, straight(t))
    lots = rounds(listing)
    firsts = [lot[0] for lot in lots]
    points, rows = grown(0, len(lots), lambda p, k: _along(arrows, p, lots[k]))
    return (tuple([seen(weights[p], firsts) for p in points]), rows)


def _along(arrows, p, lot):
    """Return the point that one comes to from p by the arrows of a lot one after another, or None."""
    for i in lot:
        p = arrows[p][i]
        if p < 0:
            return None
    return p
