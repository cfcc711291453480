"""Imposing [41]: pages put on a sheet by a scheme, what pages can't be, and pages read by a scheme."""

import unittest

from foldpress.errors import BadBook, BadSheet
from foldpress.imposing import imposed, section_pages
from foldpress.scheme import Scheme
from foldpress.section import page_places, side_rows
from foldpress.sheet import Sheet
from paper import NO_NUMBERS, all_folds, change_deeply, many_schemes, pages_read

FOLIO = Scheme(1, 2, [("left", 1, "over")])
QUARTO = Scheme(2, 2, [("top", 1, "under"), ("left", 1, "over")])


def in_order(scheme):
    rows, columns, _ = scheme.told()
    return list(range(1, 2 * rows * columns + 1))


class TestImposed(unittest.TestCase):
    def test_worked_out(self):
        self.assertEqual(imposed(Scheme(1, 1, []), [1, 2]).told(), ([[(1, False)]], [[(2, False)]]))
        self.assertEqual(imposed(FOLIO, [1, 2, 3, 4]).told(), ([[(2, False), (3, False)]], [[(4, False), (1, False)]]))
        self.assertEqual(imposed(FOLIO, [9, 0, 2000, 9]).told(),
                         ([[(0, False), (2000, False)]], [[(9, False), (9, False)]]))
        self.assertEqual(imposed(QUARTO, [1, 2, 3, 4, 5, 6, 7, 8]).told(),
                         ([[(1, True), (8, True)], [(4, False), (5, False)]],
                          [[(7, True), (2, True)], [(6, False), (3, False)]]))
        self.assertEqual(imposed(QUARTO, [11, 12, 13, 14, 15, 16, 17, 0]).told(),
                         ([[(11, True), (0, False)], [(14, False), (15, False)]],
                          [[(17, True), (12, True)], [(16, False), (13, False)]]))

    def test_it_is_a_sheet(self):
        self.assertIs(type(imposed(FOLIO, [1, 2, 3, 4])), Sheet)

    def test_pages_in_order_are_as_the_scheme_tells_its_sides(self):
        for rows, columns, folds in many_schemes():
            scheme = Scheme(rows, columns, folds)
            self.assertEqual(imposed(scheme, in_order(scheme)).told(),
                             (side_rows(scheme, "front"), side_rows(scheme, "back")))

    def test_folded_it_has_the_pages_in_order_with_their_heads_up(self):
        for rows, columns, folds in many_schemes():
            scheme = Scheme(rows, columns, folds)
            for pages in ([2000 - number for number in in_order(scheme)], [5] * (2 * rows * columns),
                          [number % 3 for number in in_order(scheme)], [0] * (2 * rows * columns)):
                front, back = imposed(scheme, pages).told()
                self.assertEqual(pages_read(rows, columns, folds, front, back), [(page, False) for page in pages])

    def test_blanks_are_not_turned(self):
        for scheme in (QUARTO, Scheme(2, 1, [("top", 1, "over")])):
            front, back = imposed(scheme, [0] * len(in_order(scheme))).told()
            for row in front + back:
                self.assertEqual(set(row), {(0, False)})
                self.assertEqual({type(is_turned) for _, is_turned in row}, {bool})

    def test_pages_at_the_edges(self):
        for page in (0, 1, 2000):
            self.assertEqual(imposed(Scheme(1, 1, []), [page, page]).told(), ([[(page, False)]], [[(page, False)]]))

    def test_handed_lists_stay_and_are_not_kept(self):
        pages = [1, 2, 3, 4]
        sheet = imposed(FOLIO, pages)
        self.assertEqual(pages, [1, 2, 3, 4])
        pages.clear()
        self.assertEqual(section_pages(FOLIO, sheet), [1, 2, 3, 4])
        change_deeply(sheet.told())
        self.assertEqual(section_pages(FOLIO, sheet), [1, 2, 3, 4])
        self.assertEqual(FOLIO.told(), (1, 2, [("left", 1, "over")]))


class TestNoPages(unittest.TestCase):
    def refused(self, scheme, pages):
        with self.assertRaises(BadBook, msg=repr(pages)):
            imposed(scheme, pages)

    def test_no_list(self):
        for thing in (None, True, False, 0, 4, "", "1234", (), (1, 2, 3, 4), {}, {1: 1, 2: 2, 3: 3, 4: 4},
                      {1, 2, 3, 4}, b"1234", object(), len, FOLIO):
            self.refused(FOLIO, thing)
        self.refused(FOLIO, range(1, 5))
        self.refused(Scheme(1, 1, []), (1, 2))

    def test_too_few_and_too_many(self):
        for many in list(range(0, 4)) + [5, 6, 8, 64, 100]:
            self.refused(FOLIO, [1] * many)
        for scheme in (Scheme(1, 1, []), QUARTO):
            pages = in_order(scheme)
            self.refused(scheme, pages[:-1])
            self.refused(scheme, pages + [1])
            self.refused(scheme, pages + [0])
            self.refused(scheme, pages[:len(pages) // 2])
            self.refused(scheme, [])

    def test_pages_of_anything(self):
        for at in range(4):
            for thing in NO_NUMBERS + (-1, -2, 2001, 10 ** 40, -10 ** 40, (1, False), (0, False)):
                pages = [1, 2, 3, 4]
                pages[at] = thing
                self.refused(FOLIO, pages)
                self.assertEqual(len(pages), 4)


class TestSectionPages(unittest.TestCase):
    def refused(self, scheme, sheet):
        told = sheet.told()
        with self.assertRaises(BadSheet):
            section_pages(scheme, sheet)
        self.assertEqual(sheet.told(), told)

    def test_read_by_its_scheme(self):
        for rows, columns, folds in many_schemes():
            scheme = Scheme(rows, columns, folds)
            for pages in (in_order(scheme), [7] * (2 * rows * columns), [0] * (2 * rows * columns),
                          [number * 7 % 4 for number in in_order(scheme)]):
                self.assertEqual(section_pages(scheme, imposed(scheme, pages)), pages)

    def test_worked_out(self):
        sheet = Sheet([[(10, False), (11, False)]], [[(12, False), (0, False)]])
        self.assertEqual(section_pages(FOLIO, sheet), [0, 10, 11, 12])
        self.assertEqual(section_pages(Scheme(1, 2, [("left", 1, "under")]), sheet), [11, 12, 0, 10])
        self.assertEqual(section_pages(Scheme(1, 2, [("right", 1, "over")]), sheet), [12, 11, 10, 0])
        self.assertEqual(section_pages(Scheme(1, 2, [("right", 1, "under")]), sheet), [10, 0, 12, 11])

    def test_read_by_another_scheme_of_its_size(self):
        for size in ((2, 2), (2, 3), (1, 3), (3, 1)):
            schemes = [Scheme(size[0], size[1], folds) for folds in all_folds(*size)]
            for scheme in schemes[::7]:
                sheet = imposed(scheme, in_order(scheme))
                heads = {place[:3]: place[3] for place in page_places(scheme)}
                pages = {place[:3]: page for page, place in enumerate(page_places(scheme), start=1)}
                for other in schemes:
                    if all(heads[place[:3]] == place[3] for place in page_places(other)):
                        expected = [pages[place[:3]] for place in page_places(other)]
                        self.assertEqual(section_pages(other, sheet), expected)
                    else:
                        self.refused(other, sheet)

    def test_a_head_turned_otherwise(self):
        for scheme in (FOLIO, QUARTO, Scheme(2, 1, [("bottom", 1, "under")])):
            rows, columns, _ = scheme.told()
            for side in (0, 1):
                for row in range(rows):
                    for column in range(columns):
                        sides = imposed(scheme, in_order(scheme)).told()
                        page, is_turned = sides[side][row][column]
                        sides[side][row][column] = (page, not is_turned)
                        self.refused(scheme, Sheet(sides[0], sides[1]))
                        sides[side][row][column] = (0, False)
                        expected = [0 if number == page else number for number in in_order(scheme)]
                        self.assertEqual(section_pages(scheme, Sheet(sides[0], sides[1])), expected)

    def test_another_size(self):
        for rows, columns in ((1, 1), (2, 1), (1, 3), (2, 2), (2, 4), (8, 1)):
            blank = [[(0, False)] * columns for _ in range(rows)]
            self.refused(FOLIO, Sheet(blank, blank))
            self.refused(Scheme(1, 4, [("left", 2, "over"), ("left", 1, "over")]), Sheet(blank, blank))
        self.refused(Scheme(1, 1, []), imposed(FOLIO, [1, 2, 3, 4]))
        self.refused(Scheme(2, 1, [("top", 1, "over")]), imposed(FOLIO, [0, 0, 0, 0]))

    def test_what_is_told_is_the_askers_own(self):
        sheet = imposed(QUARTO, in_order(QUARTO))
        told = section_pages(QUARTO, sheet)
        self.assertIs(type(told), list)
        self.assertEqual({type(page) for page in told}, {int})
        change_deeply(told)
        self.assertEqual(section_pages(QUARTO, sheet), in_order(QUARTO))


if __name__ == "__main__":
    unittest.main()
