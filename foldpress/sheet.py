"""Printed sheets: the pages on a front and on a back."""

from foldpress.errors import BadSheet
from foldpress.scheme import is_size
from foldpress.words import is_among

MOST_PAGE = 2000


class Sheet:
    """A sheet with pages on both sides, the back as it is seen by turning about an upright line."""

    def __init__(self, front, back):
        size = _side_size(front)
        if size is None or _side_size(back) != size:
            raise BadSheet("no sheet has such sides")
        self._front = _kept_side(front)
        self._back = _kept_side(back)

    def told(self):
        """The rows of the front and the rows of the back."""
        return ([list(row) for row in self._front], [list(row) for row in self._back])


def tumbled_back(sheet):
    """The rows of the back as it is seen by turning the sheet about a level line."""
    return tumbled_rows(sheet.told()[1])


def tumbled_rows(rows):
    """The rows of a side, standing from behind, each with its head the other way."""
    return [[_tumbled(face) for face in row[::-1]] for row in rows[::-1]]


def copied_sheet(sheet):
    """Another sheet alike."""
    front, back = sheet.told()
    return Sheet(front, back)


def sheet_size(sheet):
    """How many rows and columns a sheet has."""
    front = sheet.told()[0]
    return (len(front), len(front[0]))


def is_page(thing):
    """Whether the thing is the number of a page, or 0, a blank's; of anything."""
    return is_among(thing, 0, MOST_PAGE)


def _side_size(side):
    """The rows and columns of a side, or None of what is no side of a sheet; of anything."""
    if not isinstance(side, list) or not all([_is_row(row) for row in side]):
        return None
    if len(set([len(row) for row in side])) != 1 or not is_size(len(side), len(side[0])):
        return None
    return (len(side), len(side[0]))


def _is_row(thing):
    """Whether the thing is a list of faces, however many."""
    return isinstance(thing, list) and all([_is_face(face) for face in thing])


def _is_face(thing):
    """Whether the thing is a page with its turn; a blank has none."""
    if not isinstance(thing, tuple) or len(thing) != 2:
        return False
    page, is_turned = thing
    return is_page(page) and isinstance(is_turned, bool) and (page != 0 or not is_turned)


def _kept_side(side):
    """The rows of a side, so that no later change reaches them."""
    return tuple([tuple([(page, is_turned) for page, is_turned in row]) for row in side])


def _tumbled(face):
    """The face with its head the other way; a blank stays as it is."""
    page, is_turned = face
    return (page, page != 0 and not is_turned)
