"""Stacks: a sheet that is folded part by part, and which of its leaves lie upon which."""

from foldpress.errors import BadScheme, OutOfPlace
from foldpress.scheme import LEVEL_EDGES, is_size, size_after
from foldpress.words import is_among

FAR_EDGES = ("right", "bottom")


class Stack:
    """A sheet of so many rows and columns of cells, flat at first."""

    def __init__(self, rows, columns):
        if not is_size(rows, columns):
            raise BadScheme(0)
        # The flat sheet and what each fold made of it, the last one as the stack lies now: so folds are taken back.
        # They are tuples throughout, so that copies can share them.
        self._grids = [_flat_grid(rows, columns)]

    def size(self):
        """How many rows and columns of places are left."""
        grid = self._grids[-1]
        return (len(grid), len(grid[0]))

    def leaves_at(self, row, column):
        """The leaves at a place, from above downwards."""
        rows, columns = self.size()
        if not is_among(row, 1, rows) or not is_among(column, 1, columns):
            raise OutOfPlace("the stack has no such place")
        return list(self._grids[-1][row - 1][column - 1])

    def all_leaves(self):
        """The leaves at each place, row by row."""
        return [[list(leaves) for leaves in row] for row in self._grids[-1]]

    def fold_part(self, edge, many, way):
        """Folds so many rows or columns at an edge over or under the others."""
        rows, columns = self.size()
        if size_after(rows, columns, (edge, many, way)) is None:
            raise OutOfPlace("the stack can't be folded so")
        self._grids.append(_grid_folded(self._grids[-1], edge, many, way))

    def unfold(self):
        """Takes the last fold back."""
        if len(self._grids) == 1:
            raise OutOfPlace("the stack has no fold")
        self._grids.pop()

    def copied(self):
        """Another stack alike, its folds too."""
        flat = self._grids[0]
        other = Stack(len(flat), len(flat[0]))
        other._grids = list(self._grids)
        return other


def folded_stack(scheme):
    """The stack of a scheme's sheet with all its folds done."""
    rows, columns, folds = scheme.told()
    stack = Stack(rows, columns)
    for edge, many, way in folds:
        stack.fold_part(edge, many, way)
    return stack


def _flat_grid(rows, columns):
    """The leaves of a flat sheet, row by row and place by place."""
    return tuple([
        tuple([((row, column, False, False),) for column in range(1, columns + 1)])
        for row in range(1, rows + 1)
    ])


def _grid_folded(grid, edge, many, way):
    """The grid behind a fold."""
    if edge in LEVEL_EDGES:
        return _lines_folded(grid, edge, many, way)
    return _exchanged(_lines_folded(_exchanged(grid), edge, many, way))


def _exchanged(grid):
    """The grid with columns for rows."""
    return tuple(zip(*grid))


def _lines_folded(lines, edge, many, way):
    """The lines along an edge, from the top or the left, behind a fold at it."""
    if edge in FAR_EDGES:
        return _first_lines_folded(lines[::-1], edge, many, way)[::-1]
    return _first_lines_folded(lines, edge, many, way)


def _first_lines_folded(lines, edge, many, way):
    """The lines, counted from the edge inwards, behind a fold of the first ones."""
    moved = lines[:many][::-1]
    laid = [_line_laid(one, other, edge, way) for one, other in zip(moved, lines[many:])]
    return tuple(laid) + lines[2 * many:]


def _line_laid(moved, still, edge, way):
    """What a line becomes when another one is laid over or under it, place by place."""
    return tuple([_leaves_laid(one, other, edge, way) for one, other in zip(moved, still)])


def _leaves_laid(moved, still, edge, way):
    """The leaves of a place when those of another one are laid over or under them."""
    laid = tuple([_other_side_up(leaf, edge) for leaf in moved[::-1]])
    return laid + still if way == "over" else still + laid


def _other_side_up(leaf, edge):
    """The leaf, turned over by a fold at that edge."""
    row, column, is_swapped, is_turned = leaf
    if edge in LEVEL_EDGES:
        return (row, column, is_swapped, not is_turned)
    return (row, column, not is_swapped, is_turned)
