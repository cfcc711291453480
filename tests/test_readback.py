"""Schemes read back [51] [52] [53]: those that make a book of a sheet, what hinders them, which ones impose alike."""

import random
import unittest

from foldpress.allschemes import all_schemes
from foldpress.errors import OutOfPlace, TooGreat
from foldpress.imposing import imposed
from foldpress.readback import hindering, same_sheet, scheme_kinds, schemes_for
from foldpress.scheme import Scheme
from foldpress.sheet import Sheet
from paper import NO_NUMBERS, NO_SIZES, SMALL_SIZES, change_deeply, folded, many_schemes, pages_read

FOLIO = Sheet([[(2, False), (3, False)]], [[(4, False), (1, False)]])
# The least ones with more than 2,000 schemes, and the greatest.
TOO_GREAT = ((1, 7), (7, 1), (2, 5), (5, 2), (3, 4), (4, 3), (4, 4), (1, 8), (8, 1), (8, 4), (4, 8), (5, 6))


def told(schemes):
    return [scheme.told() for scheme in schemes]


def in_order(rows, columns):
    return list(range(1, 2 * rows * columns + 1))


def pages_that_stand(scheme, sheet):
    """How many pages from 1 on are read in order, heads up, from the sheet that is folded by the scheme."""
    rows, columns, folds = scheme.told()
    front, back = sheet.told()
    read = pages_read(rows, columns, folds, front, back)
    return ([face == (page, False) for page, face in enumerate(read, start=1)] + [False]).index(False)


def some_sheets(rows, columns):
    """Sheets of a size that are books, near to books, or none."""
    picker = random.Random(rows * 10 + columns)
    schemes = all_schemes(rows, columns)
    for scheme in picker.sample(schemes, min(6, len(schemes))):
        pages = in_order(rows, columns)
        yield imposed(scheme, pages)
        one, other = picker.sample(range(len(pages)), 2)
        pages[one], pages[other] = pages[other], pages[one]
        yield imposed(scheme, pages)
        sides = imposed(scheme, in_order(rows, columns)).told()
        row = picker.choice(sides[picker.choice((0, 1))])
        column = picker.randrange(columns)
        row[column] = (row[column][0], not row[column][1])
        yield Sheet(sides[0], sides[1])
        row[column] = (0, False)
        yield Sheet(sides[0], sides[1])
        yield imposed(scheme, [1] * len(pages))
        yield imposed(scheme, [page + 1 for page in in_order(rows, columns)])


class TestWorkedOut(unittest.TestCase):
    def test_one_cell(self):
        book = Sheet([[(1, False)]], [[(2, False)]])
        self.assertEqual(told(schemes_for(book)), [(1, 1, [])])
        self.assertIsNone(hindering(book))
        for front, back, pair in (((2, False), (1, False), (0, 1)), ((1, True), (2, False), (0, 1)),
                                  ((0, False), (2, False), (0, 1)), ((1, False), (1, False), (1, 2)),
                                  ((1, False), (2, True), (1, 2)), ((1, False), (0, False), (1, 2)),
                                  ((1, False), (3, False), (1, 2)), ((1, True), (2, True), (0, 1))):
            sheet = Sheet([[front]], [[back]])
            self.assertEqual(schemes_for(sheet), [])
            self.assertEqual(hindering(sheet), pair)

    def test_a_folio(self):
        self.assertEqual(told(schemes_for(FOLIO)), [(1, 2, [("left", 1, "over")])])
        self.assertIsNone(hindering(FOLIO))

    def test_a_folio_that_is_none(self):
        # Pages 1 and 4 exchanged: page 1 stands where it does for a fold of the right side over, page 2 doesn't.
        for front, back, pair in (([(2, False), (3, False)], [(1, False), (4, False)], (1, 2)),
                                  ([(2, False), (4, False)], [(3, False), (1, False)], (2, 3)),
                                  ([(2, False), (3, False)], [(0, False), (1, False)], (3, 4)),
                                  ([(2, False), (3, False)], [(4, True), (1, False)], (3, 4)),
                                  ([(2, False), (3, True)], [(4, False), (1, False)], (2, 3)),
                                  ([(2, False), (3, False)], [(4, False), (1, True)], (0, 1)),
                                  ([(0, False), (0, False)], [(0, False), (0, False)], (0, 1)),
                                  ([(2, False), (3, False)], [(5, False), (1, False)], (3, 4))):
            sheet = Sheet([front], [back])
            self.assertEqual(schemes_for(sheet), [])
            self.assertEqual(hindering(sheet), pair)
            self.assertIs(type(hindering(sheet)), tuple)

    def test_two_schemes_make_the_same_book(self):
        one = [("left", 1, "over"), ("right", 1, "under")]
        other = [("right", 1, "under"), ("left", 1, "over")]
        sheet = Sheet([[(2, False), (3, False), (6, False)]], [[(5, False), (4, False), (1, False)]])
        self.assertEqual(told(schemes_for(sheet)), [(1, 3, one), (1, 3, other)])
        self.assertTrue(same_sheet(Scheme(1, 3, one), Scheme(1, 3, other)))


class TestSchemesFor(unittest.TestCase):
    def test_known_schemes(self):
        for rows, columns in SMALL_SIZES:
            schemes = all_schemes(rows, columns)
            for scheme in schemes if len(schemes) < 100 else schemes[::11]:
                sheet = imposed(scheme, in_order(rows, columns))
                self.assertIn(scheme.told(), told(schemes_for(sheet)))
                self.assertIsNone(hindering(sheet))

    def test_all_that_make_a_book_in_their_order(self):
        for rows, columns in SMALL_SIZES:
            for sheet in some_sheets(rows, columns):
                expected = [scheme.told() for scheme in all_schemes(rows, columns)
                            if pages_that_stand(scheme, sheet) == 2 * rows * columns]
                self.assertEqual(told(schemes_for(sheet)), expected)

    def test_what_is_told_is_the_askers_own(self):
        kept = FOLIO.told()
        schemes = schemes_for(FOLIO)
        self.assertEqual([type(schemes), type(schemes[0])], [list, Scheme])
        schemes[0].told()[2].clear()
        schemes.clear()
        self.assertEqual(told(schemes_for(FOLIO)), [(1, 2, [("left", 1, "over")])])
        self.assertEqual(FOLIO.told(), kept)


class TestHindering(unittest.TestCase):
    def test_as_far_as_some_scheme_comes(self):
        met = set()
        for rows, columns in SMALL_SIZES:
            for sheet in some_sheets(rows, columns):
                last = max(pages_that_stand(scheme, sheet) for scheme in all_schemes(rows, columns))
                expected = None if last == 2 * rows * columns else (last, last + 1)
                self.assertEqual(hindering(sheet), expected)
                self.assertEqual(hindering(sheet) is None, schemes_for(sheet) != [])
                met.add(expected)
        self.assertTrue({None, (0, 1), (1, 2), (2, 3), (3, 4), (11, 12)} <= met)

    def test_the_sheet_stays_as_it_is(self):
        sheet = Sheet([[(2, False), (3, True)]], [[(4, False), (1, False)]])
        kept = sheet.told()
        hindering(sheet)
        schemes_for(sheet)
        self.assertEqual(sheet.told(), kept)


class TestKinds(unittest.TestCase):
    def test_worked_out(self):
        self.assertEqual([told(kind) for kind in scheme_kinds(1, 1)], [[(1, 1, [])]])
        for rows, columns in ((1, 2), (2, 1), (2, 2)):
            self.assertEqual([told(kind) for kind in scheme_kinds(rows, columns)],
                             [[scheme.told()] for scheme in all_schemes(rows, columns)])
        # Three columns that are folded as a Z, the middle one between the others, come of two orders of their folds.
        several = [[folds for _, _, folds in told(kind)] for kind in scheme_kinds(1, 3) if len(kind) > 1]
        self.assertEqual(several, [
            [[("left", 1, "over"), ("left", 1, "under")], [("right", 1, "under"), ("right", 1, "over")]],
            [[("left", 1, "over"), ("right", 1, "under")], [("right", 1, "under"), ("left", 1, "over")]],
            [[("left", 1, "under"), ("left", 1, "over")], [("right", 1, "over"), ("right", 1, "under")]],
            [[("left", 1, "under"), ("right", 1, "over")], [("right", 1, "over"), ("left", 1, "under")]],
        ])
        self.assertEqual(len(scheme_kinds(1, 3)), 12)

    def test_all_of_small_sizes(self):
        for rows, columns in SMALL_SIZES:
            expected = {}
            for scheme in all_schemes(rows, columns):
                leaves = tuple(folded(rows, columns, scheme.told()[2]).at(1, 1))
                expected.setdefault(leaves, []).append(scheme.told())
            kinds = scheme_kinds(rows, columns)
            self.assertEqual([told(kind) for kind in kinds], list(expected.values()))
            self.assertEqual({type(kinds)} | {type(kind) for kind in kinds}, {list})
            self.assertEqual({type(scheme) for kind in kinds for scheme in kind}, {Scheme})

    def test_what_is_told_is_the_askers_own(self):
        expected = [told(kind) for kind in scheme_kinds(1, 3)]
        kinds = scheme_kinds(1, 3)
        for kind in kinds:
            for scheme in kind:
                change_deeply(scheme.told())
        change_deeply(kinds)
        self.assertEqual([told(kind) for kind in scheme_kinds(1, 3)], expected)


class TestSameSheet(unittest.TestCase):
    def test_each_two_of_small_sizes(self):
        schemes = [scheme for size in ((1, 1), (1, 2), (2, 1), (1, 3), (3, 1), (2, 2)) for scheme in all_schemes(*size)]
        leaves = [folded(*scheme.told()).at(1, 1) for scheme in schemes]
        for one, here in zip(schemes, leaves):
            for other, there in zip(schemes, leaves):
                self.assertIs(same_sheet(one, other), here == there)

    def test_two_of_great_sizes(self):
        ahead = [("top", 2, "over"), ("left", 1, "over"), ("right", 1, "under")]
        behind = [("top", 2, "over"), ("right", 1, "under"), ("left", 1, "over")]
        rest = [("left", 3, "over"), ("top", 1, "under"), ("left", 1, "over"), ("right", 1, "over")]
        one, other = Scheme(4, 8, ahead + rest), Scheme(4, 8, behind + rest)
        self.assertIs(same_sheet(one, other), True)
        self.assertIs(same_sheet(one, Scheme(4, 8, ahead + rest[:-1] + [("right", 1, "under")])), False)

    def test_each_is_like_itself(self):
        for rows, columns, folds in many_schemes():
            self.assertIs(same_sheet(Scheme(rows, columns, folds), Scheme(rows, columns, list(folds))), True)

    def test_schemes_of_unlike_sizes(self):
        one, other = Scheme(1, 2, [("left", 1, "over")]), Scheme(2, 1, [("top", 1, "over")])
        for left, right in ((one, other), (one, Scheme(1, 1, [])), (Scheme(1, 1, []), other)):
            self.assertIs(same_sheet(left, right), False)
            self.assertIs(same_sheet(right, left), False)


class TestRefused(unittest.TestCase):
    def test_too_great(self):
        for rows, columns in TOO_GREAT:
            blank = [[(0, False)] * columns for _ in range(rows)]
            sheet = Sheet(blank, blank)
            for ask in (lambda: schemes_for(sheet), lambda: hindering(sheet), lambda: scheme_kinds(rows, columns)):
                self.assertRaises(TooGreat, ask)

    def test_no_sizes(self):
        for rows, columns in NO_SIZES:
            self.refused(rows, columns)
        for thing in NO_NUMBERS:
            self.refused(thing, 1)
            self.refused(1, thing)
            self.refused(8, thing)

    def refused(self, rows, columns):
        with self.assertRaises(OutOfPlace, msg=repr((rows, columns))):
            scheme_kinds(rows, columns)


if __name__ == "__main__":
    unittest.main()
