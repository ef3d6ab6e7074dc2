"""The names of the matrices."""

from itertools import permutations

from weightwebs.errors import NotName
from weightwebs.matrices import GREATEST_RANK, SIMPLE_MATRICES, listed, pieces, simple_name


def matrix_of(name):
    """Return the matrix of a name; raise NotName for any other string."""
    parts = name.split("+")
    if not _make_a_name(parts):
        raise NotName("not a name of a matrix")
    return _side_by_side([SIMPLE_MATRICES[part] for part in parts])


def name_of(matrix):
    """Return the name whose matrix comes when the rows and entries are suitably listed."""
    return "+".join(sorted([simple_name(matrix, piece) for piece in pieces(matrix)]))


def listing_of(matrix):
    """Return the least listing that leads to the matrix of the name."""
    wanted = matrix_of(name_of(matrix))
    return min([listing for listing in permutations(range(len(matrix))) if listed(matrix, listing) == wanted])


def names(rank):
    """Return all names of a rank, ascending."""
    if not 1 <= rank <= GREATEST_RANK:
        return ()
    return tuple(sorted(["+".join(parts) for parts in _sums(rank, "")]))


def _make_a_name(parts):
    if not all([part in SIMPLE_MATRICES for part in parts]):
        return False
    return parts == sorted(parts) and sum([_rank(part) for part in parts]) <= GREATEST_RANK


def _rank(simple):
    return len(SIMPLE_MATRICES[simple])


def _side_by_side(blocks):
    rank = sum([len(block) for block in blocks])
    rows = []
    for block in blocks:
        ahead = len(rows)
        behind = rank - ahead - len(block)
        for row in block:
            rows.append((0,) * ahead + row + (0,) * behind)
    return tuple(rows)


def _sums(rank, least):
    """Return the ascending lists of simple names, none of them before the least, of a rank in all."""
    if rank == 0:
        return [[]]
    found = []
    for first in SIMPLE_MATRICES:
        if first >= least and _rank(first) <= rank:
            for rest in _sums(rank - _rank(first), first):
                found.append([first] + rest)
    return found
