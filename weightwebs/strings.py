"""Strings of points along least words of greatest length, and moves of words and strings."""

from weightwebs.crystals import back_row


def string_of(crystal, p, word):
    """Return how many arrows one can go back for each entry of a word, in sequence, from p on."""
    backs = {i: back_row(crystal, i) for i in word}
    string = []
    for i in word:
        many = 0
        while backs[i][p] >= 0:
            p = backs[i][p]
            many += 1
        string.append(many)
    return tuple(string)


def point_of_string(crystal, string, word):
    """Return the point with a string, or None."""
    p = 0
    for i, many in reversed(list(zip(word, string))):
        while many > 0 and p >= 0:
            p = crystal[1][p][i]
            many -= 1
        if p < 0:
            return None
    return p if string_of(crystal, p, word) == string else None


def word_moves(matrix, word):
    """Return the places of a word where two entries can be exchanged, or three turned, and which of it."""
    found = []
    for k in range(len(word) - 1):
        i, j = word[k], word[k + 1]
        if matrix[i][j] == 0:
            found.append((k, "swap"))
        elif matrix[i][j] == -1 and matrix[j][i] == -1 and word[k + 2:k + 3] == (i,):
            found.append((k, "turn"))
    return tuple(found)


def word_after(word, move):
    """Return the word with one of its moves done."""
    k, kind = move
    i, j = word[k], word[k + 1]
    if kind == "swap":
        return word[:k] + (j, i) + word[k + 2:]
    return word[:k] + (j, i, j) + word[k + 3:]


def string_after(string, move):
    """Return the string with a move of its word done."""
    k, kind = move
    if kind == "swap":
        return string[:k] + (string[k + 1], string[k]) + string[k + 2:]
    a, b, c = string[k:k + 3]
    return string[:k] + (max(c, b - a), a + c, min(a, b - c)) + string[k + 3:]
