"""A folding machine: a printed sheet that is folded step by step, what is seen of it then, and how it is read."""

from foldpress.errors import BadSheet, OutOfPlace
from foldpress.imposing import faces_at
from foldpress.section import leaf_places
from foldpress.sheet import copied_sheet, sheet_size
from foldpress.stack import Stack
from foldpress.words import is_among


class Machine:
    """A sheet that is folded by a scheme of its size."""

    def __init__(self, scheme, sheet):
        rows, columns, folds = scheme.told()
        if sheet_size(sheet) != (rows, columns):
            raise BadSheet("sheet and scheme are of unlike sizes")
        self._sheet = copied_sheet(sheet)
        self._folds = folds
        self._steps_done = 0
        self._stack = Stack(rows, columns)

    def step(self):
        """Does the next fold."""
        if self.steps_left() == 0:
            raise OutOfPlace("no fold is left")
        edge, many, way = self._folds[self._steps_done]
        self._stack.fold_part(edge, many, way)
        self._steps_done += 1

    def step_back(self):
        """Takes the last fold back."""
        self._stack.unfold()
        self._steps_done -= 1

    def steps_left(self):
        """How many folds are to be done."""
        return len(self._folds) - self._steps_done

    def seen_above(self):
        """The pages that are seen from above, row by row."""
        return [self._shown([leaf_places(leaves[0])[0] for leaves in row]) for row in self._stack.all_leaves()]

    def seen_beneath(self):
        """The pages that are seen from beneath, row by row, when the stack is turned about an upright line."""
        return [self._shown([leaf_places(leaves[-1])[1] for leaves in row[::-1]]) for row in self._stack.all_leaves()]

    def thickness_at(self, row, column):
        """How many leaves lie at a place; of anything."""
        return len(self._stack.leaves_at(row, column))

    def open_at(self, number):
        """What is seen at the left and at the right when so many leaves are turned over; of anything."""
        pages = self.all_pages()
        if not is_among(number, 0, len(pages) // 2):
            raise OutOfPlace("there are not so many leaves")
        # Between two Nones the pages stand as they are read, so that no end needs a case of its own.
        read = [None] + pages + [None]
        return (read[2 * number], read[2 * number + 1])

    def all_pages(self):
        """The pages of the folded stack, leaf by leaf from above downwards."""
        if self.steps_left() > 0:
            raise OutOfPlace("not all folds are done")
        pages = []
        for leaf in self._stack.leaves_at(1, 1):
            pages.extend(self._shown(leaf_places(leaf)))
        return pages

    def _shown(self, places):
        """The pages at some places of the sheet, each with whether its head is to the foot as the stack lies."""
        faces = faces_at(self._sheet, places)
        return [(page, page != 0 and is_turned != place[3]) for (page, is_turned), place in zip(faces, places)]
