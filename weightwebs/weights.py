"""Sums and differences of weights, and of other tuples of one length."""


def ones(matrix):
    """Return the weight (1, .., 1)."""
    return (1,) * len(matrix)


def plus(v, w):
    """Return the sum, entry by entry."""
    return tuple([a + b for a, b in zip(v, w)])


def minus(v, w):
    """Return the difference, entry by entry."""
    return tuple([a - b for a, b in zip(v, w)])


def stepped(v, k, step):
    """Return v plus k times the step, entry by entry."""
    return tuple([a + k * b for a, b in zip(v, step)])
