"""The texts of schemes, written and read."""

from foldpress.errors import BadRow
from foldpress.scheme import EDGES, WAYS, Scheme
from foldpress.textrows import rows_of, words_at

FIGURES = ("1", "2", "3", "4", "5", "6", "7", "8")


def scheme_rows(scheme):
    """The rows of a scheme's text."""
    rows, columns, folds = scheme.told()
    return [f"sheet {rows} {columns}"] + [f"fold {edge} {many} {way}" for edge, many, way in folds]


def scheme_text(scheme):
    """The text of a scheme."""
    return "\n".join(scheme_rows(scheme))


def read_scheme(text):
    """The scheme of a text; of anything."""
    rows = rows_of(text)
    size = _words_among(rows[0], 1, (("sheet",), FIGURES, FIGURES))
    folds = [_read_fold(row, at) for at, row in enumerate(rows[1:], start=2)]
    return Scheme(int(size[1]), int(size[2]), folds)


def _read_fold(row, at):
    """The fold that is told by the row with that number."""
    words = _words_among(row, at, (("fold",), EDGES, FIGURES, WAYS))
    return (words[1], int(words[2]), words[3])


def _words_among(row, at, choices):
    """The words of the row with that number, each one of those that can stand at its place."""
    words = words_at(row, at)
    for number, word in enumerate(words, start=1):
        if number > len(choices) or word not in choices[number - 1]:
            raise BadRow(at, number)
    if len(words) < len(choices):
        raise BadRow(at, len(words) + 1)
    return words
