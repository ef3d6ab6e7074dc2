"""Words of points of several crystals side by side."""

from weightwebs.crystals import grown, string_rows
from weightwebs.errors import TooMany
from weightwebs.numbers import check_size
from weightwebs.webs import CRYSTAL_LIMIT
from weightwebs.weights import plus

WORD_LIMIT = 4000


def word_lowered(crystals, word, i):
    """Return the word to which the arrow i leads from a word, or None."""
    return _lowered_by(crystals, _strings(crystals, i), word, i)


def word_raised(crystals, word, i):
    """Return the word from which the arrow i leads to a word, or None."""
    k = _places_left(_strings(crystals, i), word)[1]
    if k is None:
        return None
    before = [row[i] for row in crystals[k][1]].index(word[k])
    return word[:k] + (before,) + word[k + 1:]


def word_weight(crystals, word):
    """Return the sum of the weights of the points of a word."""
    total = (0,) * _rank(crystals)
    for (weights, _), p in zip(crystals, word):
        total = plus(total, weights[p])
    return total


def top_words(crystals):
    """Return all words to which no arrow leads, ascending."""
    _check_words(crystals)
    rank = _rank(crystals)
    # What is left of a word's "-" stays left when points are put behind it, so the points ahead
    # make a top word, too; it has as many "+" left as its weight tells.
    tops = [((), (0,) * rank)]
    for crystal in crystals:
        needs = _needs(crystal, rank)
        tops = [
            (word + (p,), plus(above, crystal[0][p]))
            for word, above in tops for p, need in enumerate(needs) if _reaches(above, need)
        ]
    return tuple([word for word, _ in tops])


def web_of_word(matrix, crystals, word):
    """Return the crystal of the words that come from a top word by arrows."""
    check_size(matrix, word_weight(crystals, word), CRYSTAL_LIMIT)
    rank = len(matrix)
    strings = [_strings(crystals, i) for i in range(rank)]
    found, arrows = grown(word, rank, lambda other, i: _lowered_by(crystals, strings[i], other, i))
    return (tuple([word_weight(crystals, other) for other in found]), arrows)


def _rank(crystals):
    return len(crystals[0][0][0])


def _check_words(crystals):
    many = 1
    for weights, _ in crystals:
        many = many * len(weights)
    if many > WORD_LIMIT:
        raise TooMany(WORD_LIMIT)


def _strings(crystals, i):
    """Return for each crystal what `rises` and what `falls` tells of its points, for the row i."""
    return [string_rows(crystal, i) for crystal in crystals]


def _places_left(strings, word):
    """Return the entry of the first "+" left and that of the last "-" left, None where there is none."""
    ups = []
    last = None
    for k, p in enumerate(word):
        rise, fall = strings[k]
        for _ in range(rise[p]):
            if ups:
                ups.pop()
            else:
                last = k
        ups.extend([k] * fall[p])
    return (ups[0] if ups else None, last)


def _lowered_by(crystals, strings, word, i):
    k = _places_left(strings, word)[0]
    if k is None:
        return None
    return word[:k] + (crystals[k][1][word[k]][i],) + word[k + 1:]


def _needs(crystal, rank):
    """Return for each point the tuple of what `rises` tells, row by row."""
    rises = [string_rows(crystal, i)[0] for i in range(rank)]
    return [tuple([rise[p] for rise in rises]) for p in range(len(crystal[0]))]


def _reaches(above, need):
    return all([a >= b for a, b in zip(above, need)])
