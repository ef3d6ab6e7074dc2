"""Points of crystals turned on their strings, and crystals turned over."""

from weightwebs.crystals import back_row, way_along
from weightwebs.groups import longest_word
from weightwebs.reflections import moved


def string_turned(crystal, p, i):
    """Return the point on the string of arrows i through p that is as far from its other end."""
    line = [row[i] for row in crystal[1]]
    back = back_row(crystal, i)
    ahead = way_along(line, p)
    behind = way_along(back, p)
    for _ in range(ahead - behind):
        p = line[p]
    for _ in range(behind - ahead):
        p = back[p]
    return p


def point_moved(crystal, p, word):
    """Return the point to which a word turns p, its last entry first."""
    for i in reversed(word):
        p = string_turned(crystal, p, i)
    return p


def corner_points(matrix, crystal):
    """Return all points to which words turn point 0, ascending."""
    found = {0}
    ahead = [0]
    while ahead:
        p = ahead.pop()
        for i in range(len(matrix)):
            q = string_turned(crystal, p, i)
            if q not in found:
                found.add(q)
                ahead.append(q)
    return tuple(sorted(found))


def opposite(matrix):
    """Return for each row the one to whose simple root, with all signs exchanged, its own is moved."""
    word = longest_word(matrix)
    found = []
    for root in matrix:
        other = tuple([-entry for entry in moved(matrix, root, word)])
        found.append(matrix.index(other))
    return tuple(found)


def turned_over(matrix, crystal):
    """Return all points in the sequence that turns the crystal over, the last one for point 0."""
    rows = opposite(matrix)
    backs = [back_row(crystal, rows[i]) for i in range(len(matrix))]
    found = {0: len(crystal[1]) - 1}
    # Each point but point 0 is come to from a point that stands ahead of it.
    for p, row in enumerate(crystal[1]):
        for i, q in enumerate(row):
            if q >= 0:
                found[q] = backs[i][found[p]]
    return tuple([found[p] for p in range(len(crystal[1]))])
