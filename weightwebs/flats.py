"""Flat weights, and their heaps."""

from weightwebs.errors import NotFlat
from weightwebs.groups import longest_word, topmost
from weightwebs.reflections import moved
from weightwebs.roots import as_weight, positive_roots
from weightwebs.unders import steps_between
from weightwebs.weights import minus


def is_flat(matrix, t):
    """Tell whether no other topmost weight lies under a topmost weight."""
    # If one does, then there is one that comes by taking off a single positive root.
    return all([min(minus(t, as_weight(matrix, c))) < 0 for c in positive_roots(matrix)])


def flat_weights(matrix):
    """Return all flat weights, ascending."""
    # With an entry of 2 or more a simple root can be taken off, so no flat weight has one.
    found = [()]
    for _ in matrix:
        found = [v + (entry,) for v in found for entry in (0, 1)]
    return tuple([v for v in found if is_flat(matrix, v)])


def flat_of(matrix, v):
    """Return the flat weight from which simple roots lead to a weight."""
    return [t for t in flat_weights(matrix) if steps_between(matrix, t, v) is not None][0]


def heap_of(matrix, t):
    """Return the word of a flat weight, and the pairs of places (p, q) of which p hangs on q."""
    word = _flat_word(matrix, t)
    hung = _hung(matrix, word)
    return (word, tuple([(p, q) for p, lot in enumerate(hung) for q in lot]))


def heap_lots(matrix, t):
    """Return all tuples of places of the heap that have with each place all those on which it hangs."""
    hung = _hung(matrix, _flat_word(matrix, t))
    lots = [()]
    for p in reversed(range(len(hung))):
        lots = lots + [(p,) + lot for lot in lots if all([q in lot for q in hung[p]])]
    return tuple(sorted(lots))


def _flat_word(matrix, t):
    if not is_flat(matrix, t):
        raise NotFlat("not a flat weight")
    return topmost(matrix, moved(matrix, t, longest_word(matrix)))[1]


def _hung(matrix, word):
    """Return for each place of a word the list of the later places on which it hangs, ascending."""
    hung = {}
    for p in reversed(range(len(word))):
        lot = []
        for q in range(p + 1, len(word)):
            if matrix[word[p]][word[q]] != 0 or any([q in hung[k] for k in lot]):
                lot.append(q)
        hung[p] = lot
    return [hung[p] for p in range(len(word))]
