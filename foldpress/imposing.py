"""Imposing: pages put on a sheet by a scheme, and read from it by one."""

from foldpress.errors import BadBook, BadSheet
from foldpress.section import both_sides, page_places, spot_of
from foldpress.sheet import Sheet, is_page, sheet_size


def imposed(scheme, pages):
    """The sheet that bears the pages, one at each place of the scheme."""
    rows, columns, _ = scheme.told()
    if not isinstance(pages, list) or len(pages) != 2 * rows * columns:
        raise BadBook("there is not one page for each place")
    if not all([is_page(page) for page in pages]):
        raise BadBook("not all of that are pages")
    front, back = both_sides(scheme, pages)
    return Sheet(front, back)


def section_pages(scheme, sheet):
    """The pages of a sheet at the places of a scheme, in their order."""
    rows, columns, _ = scheme.told()
    if sheet_size(sheet) != (rows, columns):
        raise BadSheet("sheet and scheme are of unlike sizes")
    places = page_places(scheme)
    faces = faces_at(sheet, places)
    for (page, is_turned), place in zip(faces, places):
        if page != 0 and is_turned != place[3]:
            raise BadSheet("a page's head is not where its place has it")
    return [page for page, _ in faces]


def faces_at(sheet, places):
    """What a sheet bears at the places of a scheme of its size: pages with their turns."""
    front, back = sheet.told()
    sides = {"front": front, "back": back}
    faces = []
    for place in places:
        row, column = spot_of(place, len(front[0]))
        faces.append(sides[place[2]][row][column])
    return faces
