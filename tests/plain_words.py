"""Words of points and products of webs, found plainly, by the very words of the document."""

from functools import lru_cache
from itertools import product

from tests.plain_webs import plain_size, plain_steps, plain_sum, plain_web


def plain_falls(told, p, i):
    many = 0
    while told[1][p][i] >= 0:
        p = told[1][p][i]
        many += 1
    return many


def plain_before(told, p, i):
    found = [q for q in range(len(told[1])) if told[1][q][i] == p]
    return found[0] if found else -1


def plain_rises(told, p, i):
    many = 0
    while plain_before(told, p, i) >= 0:
        p = plain_before(told, p, i)
        many += 1
    return many


def plain_signs_left(crystals, word, i):
    """The signs that are left, each with its entry: all of them are written, then pairs are taken out."""
    signs = []
    for k, (told, p) in enumerate(zip(crystals, word)):
        signs += [("-", k)] * plain_rises(told, p, i) + [("+", k)] * plain_falls(told, p, i)
    k = 0
    while k + 1 < len(signs):
        if signs[k][0] == "+" and signs[k + 1][0] == "-":
            del signs[k:k + 2]
            k = 0
        else:
            k += 1
    return signs


def with_entry(word, k, p):
    return word[:k] + (p,) + word[k + 1:]


def plain_word_lowered(crystals, word, i):
    left = [k for sign, k in plain_signs_left(crystals, word, i) if sign == "+"]
    return with_entry(word, left[0], crystals[left[0]][1][word[left[0]]][i]) if left else None


def plain_word_raised(crystals, word, i):
    left = [k for sign, k in plain_signs_left(crystals, word, i) if sign == "-"]
    return with_entry(word, left[-1], plain_before(crystals[left[-1]], word[left[-1]], i)) if left else None


def all_words(crystals):
    return list(product(*[range(len(told[0])) for told in crystals]))


def plain_product_numbers(matrix, webs):
    """The numbers of all weights in the product of some webs, each told as {weight: number}."""
    found = {(0,) * len(matrix): 1}
    for web in webs:
        longer = {}
        for v, n in found.items():
            for w, many in web.items():
                total = plain_sum(v, w)
                longer[total] = longer.get(total, 0) + n * many
        found = longer
    return found


def plain_peeled(matrix, numbers):
    """The webs of which some numbers are the sum, the one of greatest height taken first."""
    left = dict(numbers)
    found = []
    while left:
        t = max(left, key=lambda v: sum(plain_steps(matrix, v)))
        n = left[t]
        assert n > 0 and min(t) >= 0
        found.append((t, n))
        for v, many in plain_web(matrix, t).items():
            left[v] -= n * many
            if left[v] == 0:
                del left[v]
    return tuple(sorted(found))


@lru_cache(maxsize=None)
def plain_parts(matrix, tops):
    """The webs in the product of the webs of some topmost weights."""
    return plain_peeled(matrix, plain_product_numbers(matrix, [plain_web(matrix, t) for t in tops]))


def size_of_parts(matrix, parts):
    return sum(n * plain_size(matrix, t) for t, n in parts)
