"""Schemes read back: which ones make a book of a sheet, what hinders them, and which ones impose alike."""

from foldpress.allschemes import all_schemes
from foldpress.imposing import faces_at
from foldpress.section import page_places
from foldpress.sheet import sheet_size


def schemes_for(sheet):
    """The schemes that make a book of a sheet, in the order of all schemes."""
    rows, columns = sheet_size(sheet)
    schemes = all_schemes(rows, columns)
    return [scheme for scheme in schemes if _pages_in_place(scheme, sheet) == 2 * rows * columns]


def hindering(sheet):
    """None where some scheme makes a book of a sheet, else the last page to which one comes and the page behind it."""
    rows, columns = sheet_size(sheet)
    last = max([_pages_in_place(scheme, sheet) for scheme in all_schemes(rows, columns)])
    return None if last == 2 * rows * columns else (last, last + 1)


def scheme_kinds(rows, columns):
    """All schemes of a size, those together that impose alike; of anything."""
    kinds = {}
    for scheme in all_schemes(rows, columns):
        kinds.setdefault(tuple(page_places(scheme)), []).append(scheme)
    return list(kinds.values())


def same_sheet(one, other):
    """Whether two schemes impose alike."""
    # The places of a scheme are all cells of its size, so that like places tell like sizes too.
    return page_places(one) == page_places(other)


def _pages_in_place(scheme, sheet):
    """How many pages, from 1 on, the sheet has where the scheme wants them, up to the first one that isn't there."""
    places = page_places(scheme)
    many = 0
    for face, place in zip(faces_at(sheet, places), places):
        if face != (many + 1, place[3]):
            return many
        many += 1
    return many
