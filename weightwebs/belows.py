"""Words below words, and words without some descents."""

from weightwebs.errors import TooMany
from weightwebs.groups import group_size, orbit
from weightwebs.reflections import first_word, moved, reflected, way_up
from weightwebs.weights import ones

GROUP_LIMIT = 400


def is_below(matrix, word, other):
    """Tell whether a word is like one that a least word like the other one leaves of its entries."""
    # With i the first row of a least word, what is below it comes below the rest of
    # that word just by taking off i where that makes it shorter.
    v = moved(matrix, ones(matrix), word)
    for i in first_word(matrix, other):
        if v[i] < 0:
            v = reflected(matrix, v, i)
    return v == ones(matrix)


def below(matrix, word):
    """Return the first words of all words below a word, by length and then ascending."""
    _check_group(matrix)
    reached = {ones(matrix): True}
    for i in reversed(first_word(matrix, word)):
        for v in list(reached):
            reached[reflected(matrix, v, i)] = True
    return _words_to(matrix, list(reached))


def turned(matrix, word):
    """Return the first word of the word read backward."""
    return first_word(matrix, word[::-1])


def descents(matrix, word):
    """Return the rows that make the word shorter when they are put behind it."""
    v = moved(matrix, ones(matrix), word[::-1])
    return tuple([i for i, entry in enumerate(v) if entry < 0])


def coset_words(matrix, lot):
    """Return the first words of all words without a descent in the lot, by length and then ascending."""
    _check_group(matrix)
    # The words that move this weight to the weights of its orbit, each by the shortest way,
    # are those without a descent in the lot.
    v = tuple([0 if i in lot else 1 for i in range(len(matrix))])
    return _words_to(matrix, orbit(matrix, v))


def _words_to(matrix, weights):
    words = [way_up(matrix, v)[1] for v in weights]
    told = sorted([(len(word), word) for word in words])
    return tuple([word for _, word in told])


def _check_group(matrix):
    if group_size(matrix) > GROUP_LIMIT:
        raise TooMany(GROUP_LIMIT)
