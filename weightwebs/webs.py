"""Crystals of paths."""

from weightwebs.crystals import grown
from weightwebs.numbers import check_size
from weightwebs.paths import as_path, scaled, scaled_lowered, straight

CRYSTAL_LIMIT = 400


def crystal(matrix, t):
    """Return the crystal of a topmost weight."""
    return crystal_of_path(matrix, straight(t))


def crystal_of_path(matrix, path):
    """Return the crystal that comes of a path from zeros to a topmost weight."""
    found, arrows = web_of_path(matrix, scaled(path))
    return (tuple([end_of(told) for told in found]), arrows)


def path_of(matrix, t, p):
    """Return the path of a point of the crystal of t."""
    return as_path(web_of_path(matrix, scaled(straight(t)))[0][p])


def web_of_path(matrix, start):
    """Return the paths that come of a path, and their rows of arrows, for paths as (scale, points)."""
    check_size(matrix, end_of(start), CRYSTAL_LIMIT)
    return grown(start, len(matrix), lambda told, i: scaled_lowered(matrix, told, i))


def end_of(told):
    """Return the weight at which a path ends that is told as (scale, points)."""
    scale, points = told
    return tuple([entry // scale for entry in points[-1]])
