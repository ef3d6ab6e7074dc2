"""Crystals of paths."""

from weightwebs.numbers import check_size
from weightwebs.paths import as_path, scaled, scaled_lowered, straight

CRYSTAL_LIMIT = 400


def crystal(matrix, t):
    """Return the crystal of a topmost weight."""
    return crystal_of_path(matrix, straight(t))


def crystal_of_path(matrix, path):
    """Return the crystal that comes of a path from zeros to a topmost weight."""
    found, arrows = _web_of_path(matrix, scaled(path))
    return (tuple([_end(told) for told in found]), arrows)


def path_of(matrix, t, p):
    """Return the path of a point of the crystal of t."""
    return as_path(_web_of_path(matrix, scaled(straight(t)))[0][p])


def _web_of_path(matrix, start):
    """Return the paths that come of a path, and their rows of arrows, for paths as (scale, points)."""
    check_size(matrix, _end(start), CRYSTAL_LIMIT)
    found = [start]
    numbers = {start: 0}
    arrows = []
    while len(arrows) < len(found):
        row = []
        for i in range(len(matrix)):
            other = scaled_lowered(matrix, found[len(arrows)], i)
            if other is not None and other not in numbers:
                numbers[other] = len(found)
                found.append(other)
            row.append(-1 if other is None else numbers[other])
        arrows.append(tuple(row))
    return (found, tuple(arrows))


def _end(told):
    scale, points = told
    return tuple([entry // scale for entry in points[-1]])
