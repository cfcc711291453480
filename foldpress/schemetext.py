"""The texts of schemes, written and read."""

from foldpress.scheme import EDGES, WAYS, Scheme
from foldpress.textrows import rows_of, words_among, words_at

FIGURES = ("1", "2", "3", "4", "5", "6", "7", "8")


def scheme_rows(scheme):
    """The rows of a scheme's text."""
    rows, columns, folds = scheme.told()
    return [f"sheet {rows} {columns}"] + [f"fold {edge} {many} {way}" for edge, many, way in folds]


def scheme_text(scheme):
    """The text of a scheme."""
    return "\n".join(scheme_rows(scheme))


def read_scheme(text):
    """The scheme of a text; of anything."""
    rows = rows_of(text)
    size = read_size(words_at(rows[0], 1), 1)
    folds = [read_fold(words_at(row, at), at) for at, row in enumerate(rows[1:], start=2)]
    return Scheme(size[0], size[1], folds)


def read_size(words, at):
    """The size that is told by the words of the row with that number."""
    words_among(words, at, (("sheet",), FIGURES, FIGURES))
    return (int(words[1]), int(words[2]))


def read_fold(words, at):
    """The fold that is told by the words of the row with that number."""
    words_among(words, at, (("fold",), EDGES, FIGURES, WAYS))
    return (words[1], int(words[2]), words[3])
