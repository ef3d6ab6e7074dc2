"""Arrows of crystals, followed forward and backward, and what grows along arrows."""


def falls(crystal, p, i):
    """Return how many arrows i can be followed from p."""
    return way_along([row[i] for row in crystal[1]], p)


def rises(crystal, p, i):
    """Return how many arrows i can be followed backward from p."""
    return way_along(back_row(crystal, i), p)


def before(crystal, p, i):
    """Return the point from which the arrow i leads to p, or -1."""
    return back_row(crystal, i)[p]


def back_row(crystal, i):
    """Return for each point the one from which the arrow i leads to it, or -1."""
    back = [-1] * len(crystal[1])
    for p, row in enumerate(crystal[1]):
        if row[i] >= 0:
            back[row[i]] = p
    return back


def string_rows(crystal, i):
    """Return for each point what `rises` tells of it, and for each point what `falls` tells."""
    back = back_row(crystal, i)
    rise = [0] * len(back)
    fall = [0] * len(back)
    for first in [p for p, q in enumerate(back) if q < 0]:
        string = [first]
        while crystal[1][string[-1]][i] >= 0:
            string.append(crystal[1][string[-1]][i])
        for k, p in enumerate(string):
            rise[p] = k
            fall[p] = len(string) - 1 - k
    return (rise, fall)


def grown(first, rank, follow):
    """Return what one comes to by arrows from the first thing, in the sequence of a crystal, and the arrows.

    `follow` takes a thing and a row, and tells the thing to which the arrow of the row leads, or None.
    """
    found = [first]
    numbers = {first: 0}
    arrows = []
    while len(arrows) < len(found):
        row = []
        for i in range(rank):
            other = follow(found[len(arrows)], i)
            if other is not None and other not in numbers:
                numbers[other] = len(found)
                found.append(other)
            row.append(-1 if other is None else numbers[other])
        arrows.append(tuple(row))
    return (found, tuple(arrows))


def way_along(line, p):
    """Return how many steps lead from p until there is none, if line tells the next point of each."""
    many = 0
    while line[p] >= 0:
        p = line[p]
        many += 1
    return many
