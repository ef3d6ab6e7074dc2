"""Partition numbers and numbers of weights, graded by how many roots make the sums."""

from weightwebs.groups import signed_orbit
from weightwebs.numbers import WEB_LIMIT, check_size, partition_number
from weightwebs.partitions import partition_table, ways_in
from weightwebs.unders import inverse, steps_by
from weightwebs.weights import minus, ones, plus

# A polynomial is worked out as its value at one integer x that is greater than each of its
# coefficients, none of which is less than 0: then they are the digits of the value.


def graded_partition(matrix, c):
    """Return the polynomial of the numbers of ways to write a root as a sum of so many positive roots."""
    many = partition_number(matrix, c)
    if many == 0:
        return ()
    # The coefficients add up to the partition number.
    return _digits(partition_table(matrix, c, many + 1)[-1], many + 1)


def graded_number(matrix, t, v):
    """Return the polynomial whose coefficients add up to the number of v in the web of t."""
    check_size(matrix, t, WEB_LIMIT)
    undo = inverse(matrix)
    u = ones(matrix)
    most = steps_by(undo, minus(t, v))
    # The coefficients add up to the number of v, which is at most the size.
    x = WEB_LIMIT + 1
    table = partition_table(matrix, most, x)
    total = 0
    for w, sign in signed_orbit(matrix, plus(t, u)).items():
        total += sign * ways_in(table, most, steps_by(undo, minus(w, plus(v, u))))
    return _digits(total, x)


def _digits(value, x):
    found = []
    while value > 0:
        value, digit = divmod(value, x)
        found.append(digit)
    return tuple(found)
