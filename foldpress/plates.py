"""Plates: sheets that are printed with one plate on both sides, turned over, and cut at their middles."""

from foldpress.errors import OutOfPlace, TooGreat
from foldpress.scheme import is_size
from foldpress.sheet import Sheet, sheet_size, tumbled_back, tumbled_rows
from foldpress.words import is_word_of

CUTS = ("upright", "level")


def doubled(sheet):
    """The sheet of twice as many columns that bears front and back, side by side, on both its sides."""
    rows, columns = sheet_size(sheet)
    if not is_size(rows, 2 * columns):
        raise TooGreat("the sheet would have too many columns")
    front, back = sheet.told()
    plate = [one + other for one, other in zip(front, back)]
    return Sheet(plate, plate)


def tumbled(sheet):
    """The sheet of twice as many rows that bears front and tumbled back, one beneath the other, on both its sides."""
    rows, columns = sheet_size(sheet)
    if not is_size(2 * rows, columns):
        raise TooGreat("the sheet would have too many rows")
    plate = sheet.told()[0] + tumbled_back(sheet)
    return Sheet(plate, tumbled_rows(plate))


def turned_over(sheet):
    """The sheet as it lies when it is turned about an upright line."""
    front, back = sheet.told()
    return Sheet(back, front)


def tumbled_over(sheet):
    """The sheet as it lies when it is turned about a level line."""
    return Sheet(tumbled_back(sheet), tumbled_back(turned_over(sheet)))


def halves_of(sheet, way):
    """The two sheets that come of one that is cut at its middle, upright or level; the way is of anything."""
    rows, columns = sheet_size(sheet)
    lines = {"upright": columns, "level": rows}
    if not is_word_of(way, CUTS) or lines[way] % 2 == 1:
        raise OutOfPlace("the sheet can't be cut so")
    if way == "upright":
        return _upright_halves(sheet, columns // 2)
    return _level_halves(sheet, rows // 2)


def _upright_halves(sheet, middle):
    """The left and the right half."""
    front, back = sheet.told()
    front_halves = _split_rows(front, middle)
    # The back is told from behind: its right columns are those of the left half.
    back_halves = _split_rows(back, middle)
    return (Sheet(front_halves[0], back_halves[1]), Sheet(front_halves[1], back_halves[0]))


def _level_halves(sheet, middle):
    """The upper and the lower half."""
    front, back = sheet.told()
    return (Sheet(front[:middle], back[:middle]), Sheet(front[middle:], back[middle:]))


def _split_rows(rows, middle):
    """The first columns of the rows, and the others."""
    return ([row[:middle] for row in rows], [row[middle:] for row in rows])
