"""Paths from zeros, in their least form, lowered and raised.

Within the package a path is told as (scale, points): points of integers, each as many times
the point of the path as the scale tells, with the least scale that makes all of them whole.
"""

from math import gcd, lcm

from weightwebs.weights import minus, stepped


def straight(t):
    """Return the path that goes straight from zeros to a weight."""
    return as_path(scaled_least(1, [(0,) * len(t), t]))


def lowered(matrix, path, i):
    """Return the least form of the path lowered along the row i, or None."""
    return as_path(scaled_lowered(matrix, scaled(path), i))


def raised(matrix, path, i):
    """Return the least form of the path raised along the row i, or None."""
    # A path is raised just where the path that goes the way back is lowered.
    return as_path(_way_back(scaled_lowered(matrix, _way_back(scaled(path)), i)))


def scaled(path):
    """Return the least form of a path as (scale, points)."""
    scale = 1
    for point in path:
        for _, below in point:
            scale = lcm(scale, below)
    return scaled_least(scale, [_times(scale, point) for point in path])


def as_path(told):
    """Return the path that is told as (scale, points); None stays None."""
    if told is None:
        return None
    scale, points = told
    return tuple([tuple([_ratio(entry, scale) for entry in point]) for point in points])


def scaled_lowered(matrix, told, i):
    """Return as (scale, points) what is lowered of a path that is told so, or None."""
    scale, points = told
    heights = [point[i] for point in points]
    low = min(heights)
    if heights[-1] < low + scale:
        return None
    drops = [min(least - low, scale) for least in _least_ahead(heights)]
    places = _places(heights, low, drops)
    finer = 1
    for k, above, below, drop in places:
        finer = lcm(finer, below)
    found = []
    for k, above, below, drop in places:
        point = tuple([entry * finer for entry in points[k]])
        if above > 0:
            point = stepped(point, above * finer // below, minus(points[k + 1], points[k]))
        found.append(stepped(point, -drop * finer, matrix[i]))
    return scaled_least(scale * finer, found)


def scaled_least(scale, points):
    """Return the least form of a path as (scale, points), with the least scale."""
    found = [points[0]]
    for point in points[1:]:
        if point == found[-1]:
            continue
        if len(found) > 1 and _direction(found[-2], found[-1]) == _direction(found[-1], point):
            found.pop()
        found.append(point)
    common = gcd(scale, _divisor([entry for point in found for entry in point]))
    return (scale // common, tuple([tuple([entry // common for entry in point]) for point in found]))


def _places(heights, low, drops):
    """Return the places where a lowered path may bend, in sequence.

    Each is told as (k, above, below, drop): the ratio above to below of the way from the point k
    to the next one, and how often the simple root is taken off there.
    """
    found = []
    for k, height in enumerate(heights):
        found.append((k, 0, 1, drops[k]))
        # What is taken off grows on rising ways only, and there up to what the next point tells.
        if k + 1 < len(heights) and height < low + drops[k + 1] < heights[k + 1]:
            above, below = _ratio(low + drops[k + 1] - height, heights[k + 1] - height)
            found.append((k, above, below, drops[k + 1]))
    return found


def _least_ahead(heights):
    """Return for each place the least height from there on."""
    found = [heights[-1]]
    for height in heights[-2::-1]:
        found.append(min(height, found[-1]))
    return found[::-1]


def _way_back(told):
    if told is None:
        return None
    scale, points = told
    return (scale, tuple([minus(point, points[-1]) for point in points[::-1]]))


def _direction(point, other):
    way = minus(other, point)
    divisor = _divisor(way)
    return tuple([entry // divisor for entry in way])


def _divisor(entries):
    common = 0
    for entry in entries:
        common = gcd(common, entry)
    return common


def _times(scale, point):
    return tuple([above * (scale // below) for above, below in point])


def _ratio(entry, scale):
    divisor = gcd(entry, scale)
    return (entry // divisor, scale // divisor)
