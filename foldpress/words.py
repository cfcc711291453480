"""Whole numbers, names and the words of rows, told apart from anything else."""

MOST_FIGURES = 4
MOST_LETTERS = 8


def is_whole(thing):
    """Whether the thing is a whole number."""
    return isinstance(thing, int) and not isinstance(thing, bool)


def is_among(thing, least, most):
    """Whether the thing is a whole number from the least to the most."""
    return is_whole(thing) and least <= thing <= most


def is_name(thing):
    """Whether the thing is a text of one to eight small letters."""
    return _has_signs(thing, MOST_LETTERS, "a", "z")


def is_word_of(thing, words):
    """Whether the thing is a text, and one of the words."""
    return isinstance(thing, str) and thing in words


def number_of(word):
    """The number of a word of one to four figures without a 0 ahead, or None."""
    if not _has_signs(word, MOST_FIGURES, "0", "9"):
        return None
    if word[0] == "0" and len(word) > 1:
        return None
    return int(word)


def words_of(row):
    """The words of a row with one blank between them, or None of what is no such row."""
    if not isinstance(row, str):
        return None
    words = row.split(" ")
    # A blank at an end, two side by side and a row of nothing each leave an empty word.
    if "" in words:
        return None
    return words


def _has_signs(thing, most, first, last):
    """Whether the thing is a text of one to so many signs, each from the first to the last."""
    if not isinstance(thing, str) or not 1 <= len(thing) <= most:
        return False
    return all([first <= sign <= last for sign in thing])
