"""What a part of the rows sees of a web, and the points that words of rows lead to."""

from weightwebs.crystals import back_row
from weightwebs.cuts import all_numbers, web_numbers
from weightwebs.matrices import listed
from weightwebs.paths import straight
from weightwebs.unders import inverse, steps_by
from weightwebs.webs import crystal_of_path
from weightwebs.weights import minus, stepped


def part_matrix(matrix, lot):
    """Return the matrix of the rows and entries of a lot."""
    return listed(matrix, lot)


def seen(v, lot):
    """Return the entries of a weight that a lot names."""
    return tuple([v[k] for k in lot])


def parts_by_points(matrix, t, lot):
    """Return the weights and numbers of the points of the web of t to which no arrow of the lot leads."""
    web = crystal_of_path(matrix, straight(t))
    backs = [back_row(web, i) for i in lot]
    found = {}
    for p, v in enumerate(web[0]):
        if all([back[p] < 0 for back in backs]):
            found[v] = found.get(v, 0) + 1
    return tuple(sorted(found.items()))


def parts_by_peeling(matrix, t, lot):
    """Return the same from the numbers alone, by taking off web after web of the part."""
    numbers = all_numbers(matrix, t)
    if len(lot) == 0:
        return numbers
    undo = inverse(matrix)
    # A weight that comes from another one by taking off simple roots has more steps up to t.
    depths = sorted([(sum(steps_by(undo, minus(t, v))), v) for v, _ in numbers])
    left = {v: n for v, n in numbers}
    drops = {}
    found = []
    for _, v in depths:
        n = left[v]
        if n > 0:
            found.append((v, n))
            top = seen(v, lot)
            if top not in drops:
                drops[top] = _drops(matrix, lot, top)
            for drop, many in drops[top]:
                left[minus(v, drop)] -= n * many
    return tuple(sorted(found))


def cut_points(crystal, word):
    """Return the points that one comes to from point 0 along the rows of a word, its last entry first."""
    found = {0}
    for i in reversed(word):
        ahead = sorted(found)
        while ahead:
            p = crystal[1][ahead.pop()][i]
            if p >= 0 and p not in found:
                found.add(p)
                ahead.append(p)
    return tuple(sorted(found))


def _drops(matrix, lot, top):
    """Return what the weights of a part's web lack, as weights of the whole, and their numbers."""
    part = part_matrix(matrix, lot)
    undo = inverse(part)
    found = []
    for w, many in web_numbers(part, top):
        drop = (0,) * len(matrix)
        for i, steps in zip(lot, steps_by(undo, minus(top, w))):
            drop = stepped(drop, steps, matrix[i])
        found.append((drop, many))
    return found
