"""The rows of texts that are read, and their words."""

from foldpress.errors import BadRow
from foldpress.words import words_of


def rows_of(text):
    """The rows of a text; of anything."""
    if not isinstance(text, str):
        raise BadRow(1, 0)
    return text.split("\n")


def words_at(row, at):
    """The words of the row with that number."""
    words = words_of(row)
    if words is None:
        raise BadRow(at, 0)
    return words
