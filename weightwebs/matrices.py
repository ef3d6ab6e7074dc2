"""What a valid matrix is, how its rows are listed anew, and which rows hang together."""

from itertools import permutations

from weightwebs.errors import NotMatrix

GREATEST_RANK = 4

# They stand here and not in names.py, because the judging of a matrix needs them
# and names.py needs `listed` and `pieces`.
SIMPLE_MATRICES = {
    "A1": ((2,),),
    "A2": ((2, -1), (-1, 2)),
    "A3": ((2, -1, 0), (-1, 2, -1), (0, -1, 2)),
    "A4": ((2, -1, 0, 0), (-1, 2, -1, 0), (0, -1, 2, -1), (0, 0, -1, 2)),
    "B2": ((2, -2), (-1, 2)),
    "B3": ((2, -1, 0), (-1, 2, -2), (0, -1, 2)),
    "B4": ((2, -1, 0, 0), (-1, 2, -1, 0), (0, -1, 2, -2), (0, 0, -1, 2)),
    "C3": ((2, -1, 0), (-1, 2, -1), (0, -2, 2)),
    "C4": ((2, -1, 0, 0), (-1, 2, -1, 0), (0, -1, 2, -1), (0, 0, -2, 2)),
    "D4": ((2, -1, 0, 0), (-1, 2, -1, -1), (0, -1, 2, 0), (0, -1, 0, 2)),
    "F4": ((2, -1, 0, 0), (-1, 2, -2, 0), (0, -1, 2, -1), (0, 0, -1, 2)),
    "G2": ((2, -1), (-3, 2)),
}


def matrix_breach(value):
    """Return None for a valid matrix, otherwise the first broken rule and its place."""
    if not _has_form(value):
        return ("form", -1)
    rows = range(len(value))
    for i in rows:
        if value[i][i] != 2:
            return ("middle", i)
    for i in rows:
        if not _has_right_signs(value, i):
            return ("sign", i)
    for i in rows:
        if not _has_right_zeros(value, i):
            return ("zero", i)
    if not _is_finite(value):
        return ("finite", -1)
    return None


def check_matrix(value):
    """Return a valid matrix as it is, and raise NotMatrix for any other value."""
    breach = matrix_breach(value)
    if breach is not None:
        raise NotMatrix(breach[0], breach[1])
    return value


def listed(matrix, listing):
    """Return the matrix with its rows and entries in the sequence of the listing."""
    return tuple([tuple([matrix[k][m] for m in listing]) for k in listing])


def pieces(matrix):
    """Return the tuples of the rows that hang together by entries other than 0."""
    found = []
    for i in range(len(matrix)):
        piece = _piece_of(matrix, i)
        if piece[0] == i:
            found.append(piece)
    return tuple(found)


def simple_name(matrix, piece):
    """Return the simple name whose matrix the rows of a piece, suitably listed, make, or None."""
    for listing in permutations(list(piece)):
        part = listed(matrix, listing)
        for name, simple in SIMPLE_MATRICES.items():
            if simple == part:
                return name
    return None


def is_row(value, many):
    """Tell whether a value is a tuple of so many integers."""
    return isinstance(value, tuple) and len(value) == many and all([_is_whole(entry) for entry in value])


def _is_whole(value):
    # True and False are no integers in the document.
    return isinstance(value, int) and not isinstance(value, bool)


def _has_form(value):
    if not isinstance(value, tuple) or not 1 <= len(value) <= GREATEST_RANK:
        return False
    return all([is_row(row, len(value)) for row in value])


def _has_right_signs(matrix, i):
    return all([j == i or entry <= 0 for j, entry in enumerate(matrix[i])])


def _has_right_zeros(matrix, i):
    return all([(matrix[i][j] == 0) == (matrix[j][i] == 0) for j in range(len(matrix))])


def _is_finite(matrix):
    # A name is any choice of simple names of small enough rank, so the pieces can be judged one by one.
    return all([simple_name(matrix, piece) is not None for piece in pieces(matrix)])


def _piece_of(matrix, i):
    reached = [i]
    k = 0
    while k < len(reached):
        row = matrix[reached[k]]
        for j, entry in enumerate(row):
            if entry != 0 and j not in reached:
                reached.append(j)
        k += 1
    return tuple(sorted(reached))
