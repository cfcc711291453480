"""The rows of texts that are read, and their words."""

from foldpress.errors import BadRow
from foldpress.words import words_of


def rows_of(text):
    """The rows of a text; of anything."""
    if not isinstance(text, str):
        raise BadRow(1, 0)
    return text.split("\n")


def words_at(row, at):
    """The words of the row with that number."""
    words = words_of(row)
    if words is None:
        raise BadRow(at, 0)
    return words


def words_among(words, at, choices):
    """The words of the row with that number, each one of those that can stand at its place."""
    for number, word in enumerate(words, start=1):
        if number > len(choices) or word not in choices[number - 1]:
            raise BadRow(at, number)
    if len(words) < len(choices):
        raise BadRow(at, len(words) + 1)
    return words
