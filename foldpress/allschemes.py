"""All schemes of a size: how many there are, and which."""

from foldpress.errors import OutOfPlace, TooGreat
from foldpress.scheme import EDGES, WAYS, Scheme, is_size, size_after

MOST_SCHEMES = 2000


def count_schemes(rows, columns):
    """How many schemes a size has; of anything."""
    if not is_size(rows, columns):
        raise OutOfPlace("no sheet has so many rows and columns")
    return _count(rows, columns, {})


def all_schemes(rows, columns):
    """All schemes of a size, ordered by their folds; of anything."""
    if count_schemes(rows, columns) > MOST_SCHEMES:
        raise TooGreat("there are too many schemes")
    return [Scheme(rows, columns, folds) for folds in _all_folds(rows, columns)]


def _count(rows, columns, known):
    """How many schemes a size has; the counts of sizes that are known by now are kept in known."""
    if (rows, columns) == (1, 1):
        return 1
    if (rows, columns) not in known:
        sizes = [size_after(rows, columns, fold) for fold in _first_folds(rows, columns)]
        known[(rows, columns)] = sum([_count(size[0], size[1], known) for size in sizes])
    return known[(rows, columns)]


def _all_folds(rows, columns):
    """The lists of folds of all schemes of a size, in their order."""
    if (rows, columns) == (1, 1):
        return [[]]
    found = []
    for fold in _first_folds(rows, columns):
        size = size_after(rows, columns, fold)
        found.extend([[fold] + later for later in _all_folds(size[0], size[1])])
    return found


def _first_folds(rows, columns):
    """The folds that can be done first on a size, in their order."""
    most = max(rows, columns) // 2
    folds = [(edge, many, way) for edge in EDGES for many in range(1, most + 1) for way in WAYS]
    return [fold for fold in folds if size_after(rows, columns, fold) is not None]
