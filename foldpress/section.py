"""Sections: the leaves of a folded sheet, and where its pages stand on the flat one."""

from foldpress.stack import folded_stack


def section_leaves(scheme):
    """The leaves of a scheme, from above downwards."""
    return folded_stack(scheme).leaves_at(1, 1)


def page_places(scheme):
    """The places of a scheme's pages, in their order."""
    places = []
    for leaf in section_leaves(scheme):
        places.extend(leaf_places(leaf))
    return places


def whole_spreads(scheme):
    """The whole spreads of a scheme, as pairs of pages."""
    places = page_places(scheme)
    return [(even, even + 1) for even in range(2, len(places), 2) if is_whole_pair(places[even - 1], places[even])]


def side_rows(scheme, side):
    """The pages on a side of a scheme's sheet, as that side is seen."""
    rows, columns, _ = scheme.told()
    front, back = both_sides(scheme, list(range(1, 2 * rows * columns + 1)))
    return front if side == "front" else back


def leaf_places(leaf):
    """The places of the two pages of a leaf: of its upper and of its lower face."""
    row, column, is_swapped, is_turned = leaf
    sides = ("front", "back") if is_swapped == is_turned else ("back", "front")
    return [(row, column, side, is_turned) for side in sides]


def is_whole_pair(even, odd):
    """Whether the places of an even page and of the one behind it make a whole spread."""
    row, column, side, is_turned = even
    if (row, side, is_turned) != (odd[0], odd[2], odd[3]):
        return False
    # Columns are counted on the front: who reads its turned pages, or upright ones of the back, sees them from behind.
    is_from_behind = (side == "front") == is_turned
    return odd[1] == column + (-1 if is_from_behind else 1)


def both_sides(scheme, pages):
    """The rows of front and back, as they are seen, with one page for each place."""
    rows, columns, _ = scheme.told()
    sides = {side: [[None] * columns for line in range(rows)] for side in ("front", "back")}
    for place, page in zip(page_places(scheme), pages):
        row, column = spot_of(place, columns)
        sides[place[2]][row][column] = (page, page != 0 and place[3])
    return (sides["front"], sides["back"])


def spot_of(place, columns):
    """Where a place stands in the rows of its side, from 0, as that side of so many columns is seen."""
    row, column, side, _ = place
    return (row - 1, column - 1 if side == "front" else columns - column)
