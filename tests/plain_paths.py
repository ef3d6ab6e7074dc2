"""Paths and crystals found plainly, over fractions and by the very words of the document."""

from fractions import Fraction
from functools import lru_cache


def fractions_of(path):
    return [tuple(Fraction(above, below) for above, below in point) for point in path]


def ratios_of(points):
    return tuple(tuple((entry.numerator, entry.denominator) for entry in point) for point in points)


def plain_straight(t):
    points = [tuple(Fraction(0) for _ in t), tuple(Fraction(entry) for entry in t)]
    return ratios_of(plain_least(points))


def lies_straight(before, point, behind):
    """Whether a point lies straight between its neighbours, no two of the three being equal."""
    ways = [(b - a, c - b) for a, b, c in zip(before, point, behind)]
    first, second = next((a, b) for a, b in ways if a != 0 or b != 0)
    if first == 0 or second == 0 or (first > 0) != (second > 0):
        return False
    return all(a * second == b * first for a, b in ways)


def plain_least(points):
    """One point after the other is taken out, until none can be."""
    points = list(points)
    changed = True
    while changed:
        changed = False
        for k in range(1, len(points)):
            if points[k] == points[k - 1]:
                del points[k]
                changed = True
                break
            if k + 1 < len(points) and points[k] != points[k + 1]:
                if lies_straight(points[k - 1], points[k], points[k + 1]):
                    del points[k]
                    changed = True
                    break
    return points


def parted(points, i, levels):
    """The points, and between them all places where the entry i has one of some values."""
    found = [points[0]]
    for start, end in zip(points, points[1:]):
        if start[i] != end[i]:
            shares = sorted((level - start[i]) / (end[i] - start[i]) for level in levels)
            for share in shares:
                if 0 < share < 1:
                    found.append(tuple(a + share * (b - a) for a, b in zip(start, end)))
        found.append(end)
    return found


def plain_lowered(matrix, path, i):
    points = fractions_of(path)
    low = min(point[i] for point in points)
    if points[-1][i] < low + 1:
        return None
    points = parted(points, i, {point[i] for point in points} | {low + 1})
    found = []
    for k, point in enumerate(points):
        least = min(other[i] for other in points[k:])
        off = min(Fraction(1), least - low)
        found.append(tuple(entry - off * step for entry, step in zip(point, matrix[i])))
    return ratios_of(plain_least(found))


def plain_raised(matrix, path, i):
    points = fractions_of(path)
    low = min(point[i] for point in points)
    if low > -1:
        return None
    points = parted(points, i, {point[i] for point in points} | {low + 1})
    found = []
    for k, point in enumerate(points):
        least = min(other[i] for other in points[:k + 1])
        more = max(Fraction(0), 1 - least + low)
        found.append(tuple(entry + more * step for entry, step in zip(point, matrix[i])))
    return ratios_of(plain_least(found))


@lru_cache(maxsize=None)
def plain_paths(matrix, t):
    """The paths of the points of a crystal, in sequence, and the rows of their arrows."""
    paths = [plain_straight(t)]
    arrows = []
    for path in paths:
        row = []
        for i in range(len(matrix)):
            other = plain_lowered(matrix, path, i)
            if other is not None and other not in paths:
                paths.append(other)
            row.append(-1 if other is None else paths.index(other))
        arrows.append(tuple(row))
    return tuple(paths), tuple(arrows)


def plain_crystal(matrix, t):
    paths, arrows = plain_paths(matrix, t)
    weights = tuple(tuple(int(entry) for entry in fractions_of(path)[-1]) for path in paths)
    return (weights, arrows)


def plain_numbered(weights, arrows, first=0):
    """The points that one comes to from one of them, numbered as one comes to them."""
    points = [first]
    for p in points:
        for q in arrows[p]:
            if q >= 0 and q not in points:
                points.append(q)
    rows = tuple(tuple(points.index(q) if q >= 0 else -1 for q in arrows[p]) for p in points)
    return (tuple(weights[p] for p in points), rows)


def signed(falls, rises):
    """Which entry of a word an arrow lowers, by writing all signs and taking out pairs; or None."""
    signs = []
    for k, (fall, rise) in enumerate(zip(falls, rises)):
        for sign, many in (("-", rise), ("+", fall)):
            for _ in range(many):
                if sign == "-" and signs and signs[-1][0] == "+":
                    signs.pop()
                else:
                    signs.append((sign, k))
    left = [k for sign, k in signs if sign == "+"]
    return left[0] if left else None


def words_crystal(letters, rank, first):
    """The crystal that comes of a word over the points of one crystal, by the rule of signs."""
    weights, arrows = letters

    def fall(p, i):
        return 0 if arrows[p][i] < 0 else 1 + fall(arrows[p][i], i)

    def rise(p, i):
        return sum(1 + rise(q, i) for q in range(len(arrows)) if arrows[q][i] == p)

    words = [tuple(first)]
    rows = []
    for word in words:
        row = []
        for i in range(rank):
            k = signed([fall(p, i) for p in word], [rise(p, i) for p in word])
            if k is None:
                row.append(-1)
                continue
            other = word[:k] + (arrows[word[k]][i],) + word[k + 1:]
            if other not in words:
                words.append(other)
            row.append(words.index(other))
        rows.append(tuple(row))
    sums = [tuple(sum(weights[p][i] for p in word) for i in range(rank)) for word in words]
    return (tuple(sums), tuple(rows))
