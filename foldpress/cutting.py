"""Cutting: at which edges of the folded stack borders lie, what hangs together behind cuts, and what can be sewn."""

from foldpress.errors import OutOfPlace
from foldpress.scheme import EDGES, cells_of
from foldpress.section import section_leaves
from foldpress.words import is_word_of


def border_edges(scheme):
    """The borders between neighbouring cells of a scheme's sheet, each with the edge at which it lies."""
    rows, columns, _ = scheme.told()
    borders = []
    for row, column, is_swapped, is_turned in section_leaves(scheme):
        if column < columns:
            borders.append(((row, column), (row, column + 1), "left" if is_swapped else "right"))
        if row < rows:
            borders.append(((row, column), (row + 1, column), "top" if is_turned else "bottom"))
    return sorted(borders)


def closed_edges(scheme):
    """The edges at which some border lies."""
    edges_found = [border[2] for border in border_edges(scheme)]
    return [edge for edge in EDGES if edge in edges_found]


def groups_after(scheme, cuts):
    """The cells that hang together when the folded stack is cut at some edges; the cuts are of anything."""
    if not _are_edges(cuts):
        raise OutOfPlace("no stack can be cut so")
    # Each cell goes by the first cell of its group.
    firsts = {leaf[:2]: leaf[:2] for leaf in section_leaves(scheme)}
    for one, other, edge in border_edges(scheme):
        if edge not in cuts:
            firsts = _joined(firsts, firsts[one], firsts[other])
    # The cells come in their order, and so do the first ones of the groups.
    groups = {}
    for cell in sorted(firsts):
        groups.setdefault(firsts[cell], []).append(cell)
    return list(groups.values())


def loose_leaves(scheme, cuts):
    """How many cells hang together with no other one behind the cuts; they are of anything."""
    return len([group for group in groups_after(scheme, cuts) if len(group) == 1])


def bifolia(scheme):
    """The pairs of leaves that hang together at the left."""
    numbers = {leaf[:2]: number for number, leaf in enumerate(section_leaves(scheme), start=1)}
    pairs = [(numbers[one], numbers[other]) for one, other, edge in border_edges(scheme) if edge == "left"]
    return sorted([(min(pair), max(pair)) for pair in pairs])


def can_be_sewn(scheme):
    """Whether each leaf of a scheme hangs together with the one that lies as far from the other end."""
    leaves = cells_of(scheme)
    pairs = bifolia(scheme)
    # Of two neighbours just one is swapped, so that no leaf is in two pairs: their number tells that each is in one.
    return 2 * len(pairs) == leaves and all([less + more == leaves + 1 for less, more in pairs])


def _are_edges(thing):
    """Whether the thing is a list of edges, however many."""
    return isinstance(thing, list) and all([is_word_of(part, EDGES) for part in thing])


def _joined(firsts, one, other):
    """The cells with the first ones of their groups, two of these groups put together."""
    first, gone = min(one, other), max(one, other)
    return {cell: first if firsts[cell] == gone else firsts[cell] for cell in firsts}
