"""Roots as weights, the positive roots, their lengths and their heights."""

from weightwebs.matrices import pieces

# The lengths of one piece are as 1 to 1, 1 to 2 or 1 to 3, so all of them are whole
# if one of them is this number.
WHOLE_FOR_ALL = 6


def as_weight(matrix, c):
    """Return the sum of c[i] times the simple root i."""
    rows = range(len(matrix))
    return tuple([sum([c[i] * matrix[i][j] for i in rows]) for j in rows])


def positive_roots(matrix):
    """Return the positive roots by their heights, those of one height ascending."""
    found = _simple_roots(len(matrix))
    k = 0
    while k < len(found):
        others = _root_steps(matrix, found[k])
        for other in others:
            if other not in found:
                found.append(other)
        k += 1
    told = sorted([(sum(c), c) for c in found])
    return tuple([c for _, c in told])


def lengths(matrix):
    """Return the row d that makes d[j] times entry j of row i even with i and j exchanged."""
    found = [0] * len(matrix)
    for piece in pieces(matrix):
        of_piece = _piece_lengths(matrix, piece)
        least = min(list(of_piece.values()))
        for i in piece:
            found[i] = of_piece[i] // least
    return tuple(found)


def against(matrix, v, c):
    """Return 2 (v, c) / (c, c) for a weight v and a root c."""
    d = lengths(matrix)
    return 2 * paired(d, v, c) // paired(d, as_weight(matrix, c), c)


def short_roots(matrix):
    """Return the positive roots whose square is the least within their piece."""
    d = lengths(matrix)
    # The least length of each piece is 1, and the square of its simple root is 2.
    return tuple([c for c in positive_roots(matrix) if paired(d, as_weight(matrix, c), c) == 2])


def tops(matrix):
    """Return the positive root of greatest height of each piece."""
    roots = positive_roots(matrix)
    found = []
    for piece in pieces(matrix):
        inside = [c for c in roots if any([c[i] > 0 for i in piece])]
        found.append(inside[-1])
    return tuple(found)


def height_row(matrix):
    """Return the numbers of positive roots of height 1, 2 and so on."""
    heights = [sum(c) for c in positive_roots(matrix)]
    return tuple([heights.count(h) for h in range(1, max(heights) + 1)])


def exponents(matrix):
    """Return the heights behind which there are fewer roots, each as often as there are fewer."""
    row = height_row(matrix) + (0,)
    found = []
    for e in range(1, len(row)):
        found.extend([e] * (row[e - 1] - row[e]))
    return tuple(found)


def _simple_roots(rank):
    return [(0,) * i + (1,) + (0,) * (rank - i - 1) for i in range(rank)]


def _root_steps(matrix, c):
    w = as_weight(matrix, c)
    return [c[:i] + (c[i] - w[i],) + c[i + 1:] for i in range(len(c)) if c[i] >= w[i]]


def _piece_lengths(matrix, piece):
    found = {piece[0]: WHOLE_FOR_ALL}
    while len(found) < len(piece):
        for i in list(found):
            for j in piece:
                if j not in found and matrix[i][j] != 0:
                    found[j] = found[i] * matrix[j][i] // matrix[i][j]
    return found


def paired(d, v, c):
    """Return (v, c) for a weight v and a root c, by the lengths d."""
    return sum([c[i] * d[i] * v[i] for i in range(len(c))])
