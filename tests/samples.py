"""Matrices to test with, and plain searches that do not use the package."""

from itertools import permutations, product

SIMPLES = {
    "A1": ((2,),),
    "A2": ((2, -1), (-1, 2)),
    "A3": ((2, -1, 0), (-1, 2, -1), (0, -1, 2)),
    "A4": ((2, -1, 0, 0), (-1, 2, -1, 0), (0, -1, 2, -1), (0, 0, -1, 2)),
    "B2": ((2, -2), (-1, 2)),
    "B3": ((2, -1, 0), (-1, 2, -2), (0, -1, 2)),
    "B4": ((2, -1, 0, 0), (-1, 2, -1, 0), (0, -1, 2, -2), (0, 0, -1, 2)),
    "C3": ((2, -1, 0), (-1, 2, -1), (0, -2, 2)),
    "C4": ((2, -1, 0, 0), (-1, 2, -1, 0), (0, -1, 2, -1), (0, 0, -2, 2)),
    "D4": ((2, -1, 0, 0), (-1, 2, -1, -1), (0, -1, 2, 0), (0, -1, 0, 2)),
    "F4": ((2, -1, 0, 0), (-1, 2, -2, 0), (0, -1, 2, -1), (0, 0, -1, 2)),
    "G2": ((2, -1), (-3, 2)),
}

NAMES = (
    ("A1",),
    ("A1+A1", "A2", "B2", "G2"),
    ("A1+A1+A1", "A1+A2", "A1+B2", "A1+G2", "A3", "B3", "C3"),
    (
        "A1+A1+A1+A1", "A1+A1+A2", "A1+A1+B2", "A1+A1+G2", "A1+A3", "A1+B3", "A1+C3", "A2+A2", "A2+B2",
        "A2+G2", "A4", "B2+B2", "B2+G2", "B4", "C4", "D4", "F4", "G2+G2",
    ),
)

ALL_NAMES = NAMES[0] + NAMES[1] + NAMES[2] + NAMES[3]

# The exponents as the textbooks tell them.
EXPONENTS = {
    "A1": (1,), "A2": (1, 2), "A3": (1, 2, 3), "A4": (1, 2, 3, 4),
    "B2": (1, 3), "B3": (1, 3, 5), "B4": (1, 3, 5, 7), "C3": (1, 3, 5), "C4": (1, 3, 5, 7),
    "D4": (1, 3, 3, 5), "F4": (1, 5, 7, 11), "G2": (1, 5),
}

# Small enough that all words can be searched through.
SMALL = ("A1", "A1+A1", "A2", "B2", "G2", "A1+A2", "A1+B2", "A3")


def plain_matrix(name):
    parts = [SIMPLES[part] for part in name.split("+")]
    rank = sum(len(part) for part in parts)
    rows = [[0] * rank for _ in range(rank)]
    ahead = 0
    for part in parts:
        for i, j in product(range(len(part)), repeat=2):
            rows[ahead + i][ahead + j] = part[i][j]
        ahead += len(part)
    return tuple(tuple(row) for row in rows)


def plain_listed(matrix, listing):
    return tuple(tuple(matrix[k][m] for m in listing) for k in listing)


def all_listed(name):
    """All the different matrices that come of a name's matrix by listing its rows anew."""
    matrix = plain_matrix(name)
    return sorted({plain_listed(matrix, listing) for listing in permutations(range(len(matrix)))})


def all_matrices():
    return [(name, matrix) for name in ALL_NAMES for matrix in all_listed(name)]


def plain_reflected(matrix, v, i):
    return tuple(v[j] - v[i] * matrix[i][j] for j in range(len(v)))


def plain_moved(matrix, v, word):
    for i in word[::-1]:
        v = plain_reflected(matrix, v, i)
    return v


def unit(rank, i):
    return tuple(1 if j == i else 0 for j in range(rank))


def action(matrix, word):
    """What a word does to every unit weight, and so to every weight."""
    return tuple(plain_moved(matrix, unit(len(matrix), i), word) for i in range(len(matrix)))


def first_words(matrix):
    """The first word for each action, found by going through all words by length and then as tuples."""
    found = {}
    k = 0
    while True:
        before = len(found)
        for word in product(range(len(matrix)), repeat=k):
            found.setdefault(action(matrix, word), word)
        if len(found) == before:
            return found
        k += 1


def grown_words(matrix):
    """The first words likewise, but only first words are made longer; for greater matrices."""
    found = {action(matrix, ()): ()}
    rows = [()]
    while rows:
        longer = []
        for word in rows:
            for i in range(len(matrix)):
                told = action(matrix, word + (i,))
                if told not in found:
                    found[told] = word + (i,)
                    longer.append(word + (i,))
        rows = longer
    return found


def by_length(words):
    return tuple(sorted(words, key=lambda word: (len(word), word)))


def left_out(word):
    """All words that come of a word by leaving out entries."""
    return {tuple(i for i, kept in zip(word, keep) if kept) for keep in product((0, 1), repeat=len(word))}


def lots(rank):
    return [tuple(i for i in range(rank) if keep[i]) for keep in product((0, 1), repeat=rank)]
