"""Reflections of weights, and words of reflections."""

from weightwebs.weights import ones, stepped


def reflected(matrix, v, i):
    """Return v less v[i] times the simple root i."""
    return stepped(v, -v[i], matrix[i])


def moved(matrix, v, word):
    """Return the weight that comes of v by the reflections of a word, the last one first."""
    for i in reversed(word):
        v = reflected(matrix, v, i)
    return v


def are_alike(matrix, word, other):
    """Tell whether two words move every weight alike."""
    return _trace(matrix, word) == _trace(matrix, other)


def length(matrix, word):
    """Return the number of entries of a least word that is like a word."""
    return len(first_word(matrix, word))


def is_least(matrix, word):
    """Tell whether no shorter word is like a word."""
    return len(word) == length(matrix, word)


def first_word(matrix, word):
    """Return the first one, as a tuple, of the least words that are like a word."""
    return way_up(matrix, _trace(matrix, word))[1]


def way_up(matrix, v):
    """Return the topmost weight that words move to v, and the first word of least length that does."""
    # A least word can begin with a row just if v has an entry below 0 there,
    # so the least such row, again and again, gives the first word.
    word = []
    i = _least_below_zero(v)
    while i is not None:
        word.append(i)
        v = reflected(matrix, v, i)
        i = _least_below_zero(v)
    return (v, tuple(word))


def _trace(matrix, word):
    # Words that move (1, .., 1) alike move all weights alike, as no reflection keeps it.
    return moved(matrix, ones(matrix), word)


def _least_below_zero(v):
    for i, entry in enumerate(v):
        if entry < 0:
            return i
    return None
