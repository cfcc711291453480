"""Sections [30] [31]: the leaves of schemes, the places of their pages, both sides' rows, and whole spreads."""

import unittest

from foldpress.scheme import Scheme
from foldpress.section import page_places, section_leaves, side_rows, whole_spreads
from paper import change_deeply, folded, many_schemes, pages_read, seen_spreads

QUARTO = Scheme(2, 2, [("top", 1, "under"), ("left", 1, "over")])
LONG = Scheme(1, 4, [("left", 2, "over"), ("left", 1, "over")])
OCTAVO = Scheme(2, 4, [("right", 2, "under"), ("bottom", 1, "over"), ("left", 1, "over")])
# Rows, columns, folds; leaves; front; back; whole spreads: worked out by hand.
WORKED_OUT = (
    (1, 1, [], [(1, 1, False, False)], [[(1, False)]], [[(2, False)]], []),
    (1, 2, [("left", 1, "over")], [(1, 1, True, False), (1, 2, False, False)],
     [[(2, False), (3, False)]], [[(4, False), (1, False)]], [(2, 3)]),
    (1, 2, [("left", 1, "under")], [(1, 2, False, False), (1, 1, True, False)],
     [[(4, False), (1, False)]], [[(2, False), (3, False)]], [(2, 3)]),
    (1, 2, [("right", 1, "over")], [(1, 2, True, False), (1, 1, False, False)],
     [[(3, False), (2, False)]], [[(1, False), (4, False)]], []),
    (1, 2, [("right", 1, "under")], [(1, 1, False, False), (1, 2, True, False)],
     [[(1, False), (4, False)]], [[(3, False), (2, False)]], []),
    (2, 1, [("top", 1, "over")], [(1, 1, False, True), (2, 1, False, False)],
     [[(2, True)], [(3, False)]], [[(1, True)], [(4, False)]], []),
    (2, 1, [("bottom", 1, "under")], [(1, 1, False, False), (2, 1, False, True)],
     [[(1, False)], [(4, True)]], [[(2, False)], [(3, True)]], []),
    (1, 3, [("left", 1, "over"), ("right", 1, "under")],
     [(1, 1, True, False), (1, 2, False, False), (1, 3, True, False)],
     [[(2, False), (3, False), (6, False)]], [[(5, False), (4, False), (1, False)]], [(2, 3)]),
    (1, 4, [("left", 2, "over"), ("left", 1, "over")],
     [(1, 3, True, False), (1, 2, False, False), (1, 1, True, False), (1, 4, False, False)],
     [[(6, False), (3, False), (2, False), (7, False)]], [[(8, False), (1, False), (4, False), (5, False)]],
     [(4, 5)]),
    (2, 2, [("top", 1, "under"), ("left", 1, "over")],
     [(1, 1, True, True), (2, 1, True, False), (2, 2, False, False), (1, 2, False, True)],
     [[(1, True), (8, True)], [(4, False), (5, False)]], [[(7, True), (2, True)], [(6, False), (3, False)]], [(4, 5)]),
    (2, 2, [("bottom", 1, "over"), ("left", 1, "over")],
     [(1, 1, True, False), (2, 1, True, True), (2, 2, False, True), (1, 2, False, False)],
     [[(2, False), (7, False)], [(3, True), (6, True)]], [[(8, False), (1, False)], [(5, True), (4, True)]], [(4, 5)]),
    (2, 2, [("left", 1, "over"), ("top", 1, "over")],
     [(1, 2, False, True), (1, 1, True, True), (2, 1, True, False), (2, 2, False, False)],
     [[(3, True), (2, True)], [(6, False), (7, False)]], [[(1, True), (4, True)], [(8, False), (5, False)]],
     [(2, 3), (6, 7)]),
    (2, 4, [("right", 2, "under"), ("bottom", 1, "over"), ("left", 1, "over")],
     [(1, 4, False, False), (1, 1, True, False), (2, 1, True, True), (2, 4, False, True),
      (2, 3, True, True), (2, 2, False, True), (1, 2, False, False), (1, 3, True, False)],
     [[(4, False), (13, False), (16, False), (1, False)], [(5, True), (12, True), (9, True), (8, True)]],
     [[(2, False), (15, False), (14, False), (3, False)], [(7, True), (10, True), (11, True), (6, True)]], [(8, 9)]),
)


class TestWorkedOut(unittest.TestCase):
    def test_leaves(self):
        for rows, columns, folds, leaves, _, _, _ in WORKED_OUT:
            self.assertEqual(section_leaves(Scheme(rows, columns, folds)), leaves)

    def test_both_sides(self):
        for rows, columns, folds, _, front, back, _ in WORKED_OUT:
            scheme = Scheme(rows, columns, folds)
            self.assertEqual(side_rows(scheme, "front"), front)
            self.assertEqual(side_rows(scheme, "back"), back)

    def test_whole_spreads(self):
        for rows, columns, folds, _, _, _, spreads in WORKED_OUT:
            self.assertEqual(whole_spreads(Scheme(rows, columns, folds)), spreads)

    def test_places(self):
        self.assertEqual(page_places(Scheme(1, 1, [])), [(1, 1, "front", False), (1, 1, "back", False)])
        self.assertEqual(page_places(Scheme(1, 2, [("left", 1, "over")])),
                         [(1, 1, "back", False), (1, 1, "front", False),
                          (1, 2, "front", False), (1, 2, "back", False)])
        self.assertEqual(page_places(Scheme(2, 1, [("top", 1, "over")])),
                         [(1, 1, "back", True), (1, 1, "front", True), (2, 1, "front", False), (2, 1, "back", False)])
        self.assertEqual(page_places(QUARTO),
                         [(1, 1, "front", True), (1, 1, "back", True), (2, 1, "back", False), (2, 1, "front", False),
                          (2, 2, "front", False), (2, 2, "back", False), (1, 2, "back", True), (1, 2, "front", True)])
        self.assertEqual(page_places(LONG),
                         [(1, 3, "back", False), (1, 3, "front", False), (1, 2, "front", False), (1, 2, "back", False),
                          (1, 1, "back", False), (1, 1, "front", False), (1, 4, "front", False), (1, 4, "back", False)])


class TestManySchemes(unittest.TestCase):
    def test_leaves_are_those_of_the_folded_paper(self):
        for rows, columns, folds in many_schemes():
            self.assertEqual(section_leaves(Scheme(rows, columns, folds)), folded(rows, columns, folds).at(1, 1))

    def test_printed_and_folded_the_pages_stand_in_order_with_their_heads_up(self):
        for rows, columns, folds in many_schemes():
            scheme = Scheme(rows, columns, folds)
            read = pages_read(rows, columns, folds, side_rows(scheme, "front"), side_rows(scheme, "back"))
            self.assertEqual(read, [(page, False) for page in range(1, 2 * rows * columns + 1)])

    def test_places_are_where_the_sides_have_the_pages(self):
        for rows, columns, folds in many_schemes():
            scheme = Scheme(rows, columns, folds)
            sides = {"front": side_rows(scheme, "front"), "back": side_rows(scheme, "back")}
            places = page_places(scheme)
            self.assertEqual(len(places), 2 * rows * columns)
            for page, (row, column, side, is_turned) in enumerate(places, start=1):
                seen = column - 1 if side == "front" else columns - column
                self.assertEqual(sides[side][row - 1][seen], (page, is_turned))

    def test_whole_spreads_are_those_that_are_seen(self):
        for rows, columns, folds in many_schemes():
            scheme = Scheme(rows, columns, folds)
            seen = seen_spreads(side_rows(scheme, "front"), side_rows(scheme, "back"))
            self.assertEqual(whole_spreads(scheme), seen)

    def test_spreads_of_all_kinds_are_met(self):
        met = set()
        for rows, columns, folds in many_schemes():
            scheme = Scheme(rows, columns, folds)
            places = page_places(scheme)
            for even, odd in whole_spreads(scheme):
                self.assertEqual((even % 2, odd), (0, even + 1))
                met.add(places[even - 1][2:] + (places[odd - 1][1] - places[even - 1][1],))
        self.assertEqual(met, {("front", False, 1), ("back", True, 1), ("front", True, -1), ("back", False, -1)})


class TestTold(unittest.TestCase):
    def test_kinds(self):
        for told in (section_leaves(OCTAVO), page_places(OCTAVO), whole_spreads(OCTAVO), side_rows(OCTAVO, "back")):
            self.assertIs(type(told), list)
        for leaf in section_leaves(OCTAVO):
            self.assertEqual([type(leaf)] + [type(part) for part in leaf], [tuple, int, int, bool, bool])
        for place in page_places(OCTAVO):
            self.assertEqual([type(place)] + [type(part) for part in place], [tuple, int, int, str, bool])
        for spread in whole_spreads(OCTAVO):
            self.assertEqual([type(spread)] + [type(part) for part in spread], [tuple, int, int])
        for side in ("front", "back"):
            for row in side_rows(OCTAVO, side):
                self.assertIs(type(row), list)
                for face in row:
                    self.assertEqual([type(face)] + [type(part) for part in face], [tuple, int, bool])

    def test_what_is_told_is_the_askers_own(self):
        for ask in (section_leaves, page_places, whole_spreads, lambda scheme: side_rows(scheme, "front"),
                    lambda scheme: side_rows(scheme, "back")):
            for scheme in (QUARTO, LONG, OCTAVO):
                told = scheme.told()
                earlier = ask(scheme)
                change_deeply(ask(scheme))
                self.assertEqual(ask(scheme), earlier)
                self.assertEqual(scheme.told(), told)


if __name__ == "__main__":
    unittest.main()
