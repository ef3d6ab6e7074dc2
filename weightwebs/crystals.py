"""Arrows of crystals, followed forward and backward."""


def falls(crystal, p, i):
    """Return how many arrows i can be followed from p."""
    return way_along([row[i] for row in crystal[1]], p)


def rises(crystal, p, i):
    """Return how many arrows i can be followed backward from p."""
    return way_along(back_row(crystal, i), p)


def before(crystal, p, i):
    """Return the point from which the arrow i leads to p, or -1."""
    return back_row(crystal, i)[p]


def back_row(crystal, i):
    """Return for each point the one from which the arrow i leads to it, or -1."""
    back = [-1] * len(crystal[1])
    for p, row in enumerate(crystal[1]):
        if row[i] >= 0:
            back[row[i]] = p
    return back


def way_along(line, p):
    """Return how many steps lead from p until there is none, if line tells the next point of each."""
    many = 0
    while line[p] >= 0:
        p = line[p]
        many += 1
    return many
