"""Cutting [60] [61]: borders and their edges, what hangs together behind cuts, pairs of leaves, what can be sewn."""

import unittest

from foldpress.cutting import bifolia, border_edges, can_be_sewn, closed_edges, groups_after, loose_leaves
from foldpress.errors import OutOfPlace
from foldpress.scheme import Scheme
from paper import EDGES, NO_EDGES, all_folds, change_deeply, folded, many_schemes

ONE = Scheme(1, 1, [])
FOLIO = Scheme(1, 2, [("left", 1, "over")])
QUARTO = Scheme(2, 2, [("top", 1, "under"), ("left", 1, "over")])
OCTAVO = Scheme(2, 4, [("right", 2, "under"), ("bottom", 1, "over"), ("left", 1, "over")])
# Rows, columns, folds; edges of the borders in their order; closed edges; pairs; whether sewn: worked out by hand.
WORKED_OUT = (
    (1, 1, [], [], [], [], False),
    (1, 2, [("left", 1, "over")], ["left"], ["left"], [(1, 2)], True),
    (1, 2, [("left", 1, "under")], ["left"], ["left"], [(1, 2)], True),
    (1, 2, [("right", 1, "over")], ["right"], ["right"], [], False),
    (1, 2, [("right", 1, "under")], ["right"], ["right"], [], False),
    (2, 1, [("top", 1, "over")], ["top"], ["top"], [], False),
    (2, 1, [("bottom", 1, "under")], ["bottom"], ["bottom"], [], False),
    (1, 3, [("left", 1, "over"), ("right", 1, "under")], ["left", "right"], ["left", "right"], [(1, 2)], False),
    (1, 4, [("left", 2, "over"), ("left", 1, "over")], ["left", "right", "left"], ["left", "right"],
     [(1, 4), (2, 3)], True),
    # Each leaf is in a pair, but one pair lies behind the other.
    (1, 4, [("left", 1, "over"), ("left", 1, "under"), ("left", 1, "over")], ["left", "right", "left"],
     ["left", "right"], [(1, 2), (3, 4)], False),
    (4, 1, [("bottom", 2, "over"), ("top", 1, "over")], ["top", "bottom", "top"], ["top", "bottom"], [], False),
    (2, 2, [("top", 1, "under"), ("left", 1, "over")], ["left", "top", "top", "left"], ["left", "top"],
     [(1, 4), (2, 3)], True),
    (2, 2, [("bottom", 1, "over"), ("left", 1, "over")], ["left", "bottom", "bottom", "left"], ["left", "bottom"],
     [(1, 4), (2, 3)], True),
    (2, 2, [("left", 1, "over"), ("top", 1, "over")], ["left", "top", "top", "left"], ["left", "top"],
     [(1, 2), (3, 4)], False),
    (2, 2, [("bottom", 1, "under"), ("right", 1, "under")], ["right", "bottom", "bottom", "right"],
     ["right", "bottom"], [], False),
    (2, 4, [("right", 2, "under"), ("bottom", 1, "over"), ("left", 1, "over")],
     ["left", "bottom", "right", "bottom", "left", "bottom", "bottom", "left", "right", "left"],
     ["left", "right", "bottom"], [(1, 8), (2, 7), (3, 6), (4, 5)], True),
)


def borders_in_order(rows, columns):
    """All borders: behind each cell the one at its right, then the one beneath."""
    found = []
    for row in range(1, rows + 1):
        for column in range(1, columns + 1):
            if column < columns:
                found.append(((row, column), (row, column + 1)))
            if row < rows:
                found.append(((row, column), (row + 1, column)))
    return found


def edges_by_points(rows, columns, folds):
    """The edge of each border: its middle is a point, told in half cells, that is mirrored fold by fold."""
    points = {}
    for one, other in borders_in_order(rows, columns):
        points[(one, other)] = [one[1] + other[1] - 1, one[0] + other[0] - 1]
    bounds = {"left": 0, "right": 2 * columns, "top": 0, "bottom": 2 * rows}
    for edge, many, _ in folds:
        axis = 0 if edge in ("left", "right") else 1
        is_low = edge in ("left", "top")
        line = bounds[edge] + (2 * many if is_low else -2 * many)
        for point in points.values():
            if point[axis] != line and (point[axis] < line) == is_low:
                point[axis] = 2 * line - point[axis]
        bounds[edge] = line
    edges = {}
    for (one, other), point in points.items():
        pair = ("left", "right") if one[0] == other[0] else ("top", "bottom")
        here = point[0] if one[0] == other[0] else point[1]
        # The stack is one cell wide at last: a point lies at one of two opposite edges.
        edges[(one, other)] = [edge for edge in pair if bounds[edge] == here]
        assert len(edges[(one, other)]) == 1
    return {border: found[0] for border, found in edges.items()}


def groups_by_walking(rows, columns, edges, cuts):
    """What hangs together, found by walking from cell to cell."""
    left = [(row, column) for row in range(1, rows + 1) for column in range(1, columns + 1)]
    groups = []
    while left:
        group, ahead = [], [left[0]]
        while ahead:
            cell = ahead.pop()
            if cell in group:
                continue
            group.append(cell)
            for (one, other), edge in edges.items():
                if edge not in cuts and cell in (one, other):
                    ahead.append(other if cell == one else one)
        left = [cell for cell in left if cell not in group]
        groups.append(sorted(group))
    return groups


class TestBorders(unittest.TestCase):
    def test_worked_out(self):
        for rows, columns, folds, edges, closed, _, _ in WORKED_OUT:
            scheme = Scheme(rows, columns, folds)
            borders = [(one, other, edge) for (one, other), edge in zip(borders_in_order(rows, columns), edges)]
            self.assertEqual(border_edges(scheme), borders)
            self.assertEqual(closed_edges(scheme), closed)

    def test_told_in_full(self):
        self.assertEqual(border_edges(QUARTO), [((1, 1), (1, 2), "left"), ((1, 1), (2, 1), "top"),
                                                ((1, 2), (2, 2), "top"), ((2, 1), (2, 2), "left")])

    def test_many_schemes(self):
        for rows, columns, folds in many_schemes():
            scheme = Scheme(rows, columns, folds)
            edges = edges_by_points(rows, columns, folds)
            told = border_edges(scheme)
            self.assertEqual(told, [(one, other, edges[(one, other)])
                                    for one, other in borders_in_order(rows, columns)])
            self.assertEqual(told, sorted(told))
            self.assertEqual(closed_edges(scheme), [edge for edge in EDGES if edge in edges.values()])

    def test_all_four_edges_in_their_order(self):
        scheme = Scheme(4, 4, [("bottom", 2, "over"), ("top", 1, "over"), ("right", 2, "over"), ("left", 1, "over")])
        self.assertEqual(closed_edges(scheme), ["left", "right", "top", "bottom"])
        scheme = Scheme(3, 3, [("bottom", 1, "over"), ("top", 1, "over"), ("right", 1, "over"), ("left", 1, "over")])
        self.assertEqual(closed_edges(scheme), ["left", "right", "top", "bottom"])

    def test_kinds_of_what_is_told(self):
        for border in border_edges(OCTAVO):
            one, other, edge = border
            self.assertEqual([type(border), type(one), type(other), type(edge)], [tuple, tuple, tuple, str])
            self.assertEqual({type(number) for number in one + other}, {int})
        self.assertIs(type(closed_edges(OCTAVO)), list)


class TestGroups(unittest.TestCase):
    def test_worked_out(self):
        whole = [[(1, 1), (1, 2), (2, 1), (2, 2)]]
        apart = [[(1, 1)], [(1, 2)], [(2, 1)], [(2, 2)]]
        for cuts, groups, loose in (
                ([], whole, 0), (["right"], whole, 0), (["bottom", "right", "bottom"], whole, 0),
                (["left"], [[(1, 1), (2, 1)], [(1, 2), (2, 2)]], 0),
                (["left", "left"], [[(1, 1), (2, 1)], [(1, 2), (2, 2)]], 0),
                (["top"], [[(1, 1), (1, 2)], [(2, 1), (2, 2)]], 0),
                (["right", "top", "bottom"], [[(1, 1), (1, 2)], [(2, 1), (2, 2)]], 0),
                (["left", "top"], apart, 4), (["top", "left"], apart, 4),
                (["left", "right", "top", "bottom"], apart, 4),
                (["top", "left", "top", "left", "right", "top"], apart, 4)):
            self.assertEqual(groups_after(QUARTO, cuts), groups)
            self.assertEqual(loose_leaves(QUARTO, cuts), loose)

    def test_loose_ones_beside_others(self):
        scheme = Scheme(1, 4, [("left", 2, "over"), ("left", 1, "over")])
        self.assertEqual(groups_after(scheme, ["left"]), [[(1, 1)], [(1, 2), (1, 3)], [(1, 4)]])
        self.assertEqual(loose_leaves(scheme, ["left"]), 2)
        self.assertEqual(groups_after(scheme, ["right"]), [[(1, 1), (1, 2)], [(1, 3), (1, 4)]])
        self.assertEqual(loose_leaves(scheme, ["right"]), 0)
        self.assertEqual(loose_leaves(scheme, ["left", "right"]), 4)

    def test_an_octavo(self):
        upper = [(1, 1), (1, 2), (1, 3), (1, 4)]
        lower = [(2, 1), (2, 2), (2, 3), (2, 4)]
        self.assertEqual(groups_after(OCTAVO, []), [upper + lower])
        self.assertEqual(groups_after(OCTAVO, ["bottom"]), [upper, lower])
        self.assertEqual(groups_after(OCTAVO, ["bottom", "right"]), [upper[:2], upper[2:], lower[:2], lower[2:]])
        self.assertEqual(groups_after(OCTAVO, ["left"]), [[(1, 1), (2, 1)], [(1, 2), (1, 3), (2, 2), (2, 3)],
                                                          [(1, 4), (2, 4)]])

    def test_one_cell(self):
        for cuts in ([], ["left"], ["left", "right", "top", "bottom"]):
            self.assertEqual(groups_after(ONE, cuts), [[(1, 1)]])
            self.assertEqual(loose_leaves(ONE, cuts), 1)

    def test_many_schemes(self):
        choices = [[edge for at, edge in enumerate(EDGES) if bits >> at & 1] for bits in range(16)]
        for at, (rows, columns, folds) in enumerate(many_schemes()):
            scheme = Scheme(rows, columns, folds)
            edges = edges_by_points(rows, columns, folds)
            for cuts in choices if at % 8 == 0 else choices[at % 8::5]:
                groups = groups_by_walking(rows, columns, edges, cuts)
                self.assertEqual(groups_after(scheme, cuts), groups)
                self.assertEqual(groups_after(scheme, cuts[::-1] + cuts[:2]), groups)
                self.assertEqual(loose_leaves(scheme, cuts), len([group for group in groups if len(group) == 1]))

    def test_kinds_of_what_is_told(self):
        told = groups_after(OCTAVO, ["left"])
        self.assertEqual({type(told)} | {type(group) for group in told}, {list})
        self.assertEqual({type(cell) for group in told for cell in group}, {tuple})
        self.assertIs(type(loose_leaves(OCTAVO, ["left"])), int)


class TestNoCuts(unittest.TestCase):
    def refused(self, cuts):
        for scheme in (ONE, QUARTO):
            for ask in (groups_after, loose_leaves):
                with self.assertRaises(OutOfPlace, msg=repr(cuts)):
                    ask(scheme, cuts)

    def test_no_list(self):
        for thing in (None, True, False, 0, 1, "", "left", (), ("left",), {}, {"left": 1}, {"left"}, b"left", object(),
                      len, FOLIO):
            self.refused(thing)

    def test_no_edges(self):
        for thing in NO_EDGES:
            self.refused([thing])
            self.refused(["left", thing])
            self.refused([thing, "left"])
            self.refused(["left", "top", thing, "bottom"])
            self.refused([thing, thing])


class TestPairs(unittest.TestCase):
    def test_worked_out(self):
        for rows, columns, folds, _, _, pairs, is_sewn in WORKED_OUT:
            scheme = Scheme(rows, columns, folds)
            self.assertEqual(bifolia(scheme), pairs)
            self.assertIs(can_be_sewn(scheme), is_sewn)

    def test_many_schemes(self):
        sewn = 0
        for rows, columns, folds in many_schemes():
            scheme = Scheme(rows, columns, folds)
            cells = [leaf[:2] for leaf in folded(rows, columns, folds).at(1, 1)]
            pairs = []
            for (one, other), edge in edges_by_points(rows, columns, folds).items():
                if edge == "left":
                    pairs.append(tuple(sorted([cells.index(one) + 1, cells.index(other) + 1])))
            last = len(cells)
            is_sewn = all((number, last + 1 - number) in pairs for number in range(1, last // 2 + 1)) and last % 2 == 0
            self.assertEqual(bifolia(scheme), sorted(pairs))
            self.assertIs(can_be_sewn(scheme), is_sewn)
            sewn += is_sewn
        self.assertGreater(sewn, 20)

    def test_sheets_of_odd_counts_cant_be_sewn(self):
        for rows, columns in ((1, 1), (1, 3), (3, 1), (1, 5), (3, 3)):
            for folds in all_folds(rows, columns)[:200]:
                self.assertIs(can_be_sewn(Scheme(rows, columns, folds)), False)

    def test_kinds_of_what_is_told(self):
        for pair in bifolia(OCTAVO):
            self.assertEqual([type(pair)] + [type(number) for number in pair], [tuple, int, int])


class TestOwn(unittest.TestCase):
    def test_cuts_that_are_handed_in_stay(self):
        cuts = ["top", "left", "top"]
        groups_after(QUARTO, cuts)
        loose_leaves(QUARTO, cuts)
        self.assertEqual(cuts, ["top", "left", "top"])
        self.assertEqual(QUARTO.told(), (2, 2, [("top", 1, "under"), ("left", 1, "over")]))

    def test_what_is_told_is_the_askers_own(self):
        asks = (border_edges, closed_edges, bifolia, lambda scheme: groups_after(scheme, ["left"]))
        for ask in asks:
            ahead = repr(ask(OCTAVO))
            change_deeply(ask(OCTAVO))
            self.assertEqual(repr(ask(OCTAVO)), ahead)


if __name__ == "__main__":
    unittest.main()
