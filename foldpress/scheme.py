"""Schemes: the size of a sheet, and the folds that bring it down to one place."""

from foldpress.errors import BadScheme
from foldpress.words import is_among, is_whole, is_word_of

LEVEL_EDGES = ("top", "bottom")
EDGES = ("left", "right", "top", "bottom")
WAYS = ("over", "under")
MOST_LINES = 8
MOST_CELLS = 32


class Scheme:
    """How a sheet of so many rows and columns of cells is folded."""

    def __init__(self, rows, columns, folds):
        if not is_size(rows, columns) or not isinstance(folds, list):
            raise BadScheme(0)
        at = first_wrong_fold(rows, columns, folds)
        if at is not None:
            raise BadScheme(at)
        self._rows = rows
        self._columns = columns
        self._folds = tuple([(edge, many, way) for edge, many, way in folds])

    def told(self):
        """The rows, the columns and a list of the folds."""
        return (self._rows, self._columns, list(self._folds))


def is_size(rows, columns):
    """Whether a sheet can have so many rows and columns; of anything."""
    if not is_among(rows, 1, MOST_LINES) or not is_among(columns, 1, MOST_LINES):
        return False
    return rows * columns <= MOST_CELLS


def cells_of(scheme):
    """How many cells the sheet of a scheme has."""
    rows, columns, _ = scheme.told()
    return rows * columns


def copied_scheme(scheme):
    """Another scheme alike."""
    rows, columns, folds = scheme.told()
    return Scheme(rows, columns, folds)


def scheme_key(scheme):
    """What is the same of like schemes alone, and can be the key of a dict."""
    rows, columns, folds = scheme.told()
    return (rows, columns, tuple(folds))


def first_wrong_fold(rows, columns, folds):
    """The number of the first fold that can't be, one behind the last where folds lack, or None."""
    left = (rows, columns)
    for at, fold in enumerate(folds, start=1):
        left = size_after(left[0], left[1], fold)
        if left is None:
            return at
    if left != (1, 1):
        return len(folds) + 1
    return None


def size_after(rows, columns, fold):
    """The rows and columns that a fold leaves, or None where it can't be; the fold is of anything."""
    if not _is_fold(fold):
        return None
    edge, many, _ = fold
    if edge in LEVEL_EDGES:
        return (rows - many, columns) if 2 * many <= rows else None
    return (rows, columns - many) if 2 * many <= columns else None


def _is_fold(fold):
    """Whether the thing has the form of a fold, whatever is left to be folded."""
    if not isinstance(fold, tuple) or len(fold) != 3:
        return False
    edge, many, way = fold
    return is_word_of(edge, EDGES) and is_whole(many) and many >= 1 and is_word_of(way, WAYS)
