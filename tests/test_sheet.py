"""Printed sheets [40] [42]: told as handed in, what can't be one, and the back seen about a level line."""

import unittest

from foldpress.errors import BadSheet
from foldpress.sheet import Sheet, tumbled_back
from paper import NO_NUMBERS, change_deeply

FRONT = [[(1, False), (2000, True), (0, False)], [(7, True), (7, False), (12, False)]]
BACK = [[(0, False), (3, False), (4, True)], [(2, True), (5, False), (1999, True)]]
TUMBLED = [[(1999, False), (5, True), (2, False)], [(4, False), (3, True), (0, False)]]
# No faces of a sheet, whatever stands beside them.
NO_FACES = (
    None, True, False, 0, 1, "", "1", [], (), {}, set(), object(), len, [1, False], {1: False}, "1F", (1,),
    (1, False, 1), (1, False, False), ((1, False),), [(1, False)], (None, False), (True, False), (False, False),
    ("1", False), ("", False), ([1], False), ((1,), False), (b"1", False), (-1, False), (-1, True), (2001, False),
    (2001, True), (10 ** 40, False), (-10 ** 40, False), (0, True), (1, None), (1, 0), (1, 1), (5, 1), (0, 0),
    (1, ""), (1, "True"), (1, [False]), (1, ()), (1, object()), (False, 1), (True, True),
)
NO_SIDES = (None, True, False, 0, 1, "", "side", (), {}, set(), object(), len, [], [[]], [[], []], [()], [None], [1],
            ["1"], [{}], [(1, False)], ((1, False),), [((1, False),)], ([(1, False)],), {0: [(1, False)]},
            [[[(1, False)]]], [[((1, False),)]])


def blank(rows, columns):
    return [[(0, False)] * columns for _ in range(rows)]


def copied(rows):
    return [list(row) for row in rows]


class TestTold(unittest.TestCase):
    def test_told_as_handed_in(self):
        told = Sheet(copied(FRONT), copied(BACK)).told()
        self.assertEqual(told, (FRONT, BACK))
        self.assertEqual([type(told), type(told[0]), type(told[1])], [tuple, list, list])
        for row in told[0] + told[1]:
            self.assertIs(type(row), list)
            for face in row:
                self.assertEqual([type(face)] + [type(part) for part in face], [tuple, int, bool])

    def test_a_later_change_of_what_was_handed_in(self):
        front, back = copied(FRONT), copied(BACK)
        sheet = Sheet(front, back)
        self.assertEqual((front, back), (FRONT, BACK))
        front[0][0] = (9, True)
        back[1].pop()
        front.append(None)
        change_deeply((front, back))
        self.assertEqual(sheet.told(), (FRONT, BACK))
        self.assertEqual(tumbled_back(sheet), TUMBLED)

    def test_a_later_change_of_what_was_told(self):
        sheet = Sheet(copied(FRONT), copied(BACK))
        earlier = sheet.told()
        change_deeply(sheet.told())
        self.assertEqual(sheet.told(), (FRONT, BACK))
        self.assertEqual(earlier, (FRONT, BACK))
        sheet.told()[0][0][0] = (9, True)
        sheet.told()[1].clear()
        self.assertEqual(sheet.told(), (FRONT, BACK))
        self.assertEqual(tumbled_back(sheet), TUMBLED)

    def test_one_list_handed_in_twice(self):
        row = [(1, False), (2, True)]
        side = [row, row]
        sheet = Sheet(side, side)
        told = sheet.told()
        told[0][0].clear()
        self.assertEqual(told, ([[], row], [row, row]))
        row.clear()
        self.assertEqual(sheet.told(), ([[(1, False), (2, True)]] * 2, [[(1, False), (2, True)]] * 2))

    def test_pages_stand_as_often_as_one_likes(self):
        self.assertEqual(Sheet([[(5, True), (5, True)]], [[(5, False), (5, True)]]).told(),
                         ([[(5, True), (5, True)]], [[(5, False), (5, True)]]))

    def test_pages_at_the_edges(self):
        for page in (0, 1, 2, 1999, 2000):
            self.assertEqual(Sheet([[(page, False)]], [[(0, False)]]).told(), ([[(page, False)]], [[(0, False)]]))
        for page in (1, 2, 1999, 2000):
            self.assertEqual(Sheet([[(0, False)]], [[(page, True)]]).told(), ([[(0, False)]], [[(page, True)]]))


class TestRefused(unittest.TestCase):
    def refused(self, front, back):
        with self.assertRaises(BadSheet, msg=repr((front, back))):
            Sheet(front, back)

    def test_all_sizes(self):
        for rows in range(0, 10):
            for columns in range(0, 10):
                side = blank(rows, columns)
                if 1 <= rows <= 8 and 1 <= columns <= 8 and rows * columns <= 32:
                    self.assertEqual(Sheet(side, side).told(), (side, side))
                else:
                    self.refused(side, side)
        self.refused(blank(1, 32), blank(1, 32))
        self.refused(blank(32, 1), blank(32, 1))

    def test_sides_of_unlike_sizes(self):
        for rows, columns in ((1, 2), (2, 1), (2, 2), (3, 5), (4, 8)):
            for more_rows, more_columns in ((1, 0), (0, 1), (-1, 0), (0, -1), (1, -1), (-1, 1)):
                other = blank(rows + more_rows, columns + more_columns)
                self.refused(blank(rows, columns), other)
                self.refused(other, blank(rows, columns))
        self.refused(blank(2, 3), blank(3, 2))
        self.refused(blank(1, 4), blank(2, 2))

    def test_rows_of_unlike_sizes(self):
        for at in range(3):
            for row in ([], [(0, False)], [(0, False)] * 3):
                side = blank(3, 2)
                side[at] = row
                self.refused(side, blank(3, 2))
                self.refused(blank(3, 2), side)
                self.refused(side, copied(side))
        self.refused([[(0, False)] * 3, [(0, False)]], blank(2, 2))

    def test_sides_and_rows_of_anything(self):
        for thing in NO_SIDES:
            self.refused(thing, blank(1, 1))
            self.refused(blank(1, 1), thing)
            self.refused(thing, thing)
        for thing in (None, True, 0, 1, "", "ab", (), ((0, False), (0, False)), {}, {(0, False): 1, (1, False): 2},
                      set(), object()):
            for at in range(2):
                side = blank(2, 2)
                side[at] = thing
                self.refused(side, blank(2, 2))
                self.refused(blank(2, 2), side)
        self.refused(tuple(blank(2, 2)), blank(2, 2))
        self.refused(blank(2, 2), tuple(blank(2, 2)))

    def test_faces_of_anything(self):
        for face in NO_FACES:
            self.refused([[face]], blank(1, 1))
            self.refused(blank(1, 1), [[face]])
            for row in range(2):
                for column in range(3):
                    front, back = copied(FRONT), copied(BACK)
                    front[row][column] = face
                    self.refused(front, BACK)
                    back[row][column] = face
                    self.refused(FRONT, back)

    def test_no_number_is_a_page(self):
        for thing in NO_NUMBERS:
            for is_turned in (True, False):
                self.refused([[(thing, is_turned)]], blank(1, 1))

    def test_what_is_refused_stays_as_it_is(self):
        front, back = copied(FRONT), copied(BACK)
        back[1][2] = (0, True)
        kept = copied(back)
        self.refused(front, back)
        self.assertEqual((front, back), (FRONT, kept))


class TestTumbledBack(unittest.TestCase):
    def test_rows_columns_and_heads(self):
        self.assertEqual(tumbled_back(Sheet(FRONT, BACK)), TUMBLED)

    def test_the_front_has_no_part_in_it(self):
        self.assertEqual(tumbled_back(Sheet(blank(2, 3), BACK)), TUMBLED)

    def test_one_cell(self):
        for page, is_turned, seen in ((5, False, True), (5, True, False), (0, False, False), (2000, False, True)):
            self.assertEqual(tumbled_back(Sheet([[(1, False)]], [[(page, is_turned)]])), [[(page, seen)]])

    def test_blanks_are_never_turned(self):
        self.assertEqual(tumbled_back(Sheet(blank(3, 4), blank(3, 4))), blank(3, 4))

    def test_twice_tumbled(self):
        for rows, columns in ((1, 1), (1, 8), (8, 1), (2, 3), (5, 6), (8, 4)):
            back = [[(row * columns + column, (row + column) % 3 == 1) for column in range(columns)]
                    for row in range(rows)]
            back[0][0] = (0, False)
            once = tumbled_back(Sheet(blank(rows, columns), back))
            self.assertEqual(tumbled_back(Sheet(blank(rows, columns), once)), back)
            for row in range(rows):
                for column in range(columns):
                    page, is_turned = back[row][column]
                    self.assertEqual(once[rows - 1 - row][columns - 1 - column], (page, page != 0 and not is_turned))

    def test_what_is_told_is_the_askers_own(self):
        sheet = Sheet(FRONT, BACK)
        told = tumbled_back(sheet)
        self.assertEqual([type(told)] + [type(row) for row in told], [list] * 3)
        self.assertEqual({type(part) for row in told for _, part in row}, {bool})
        change_deeply(told)
        self.assertEqual(tumbled_back(sheet), TUMBLED)
        self.assertEqual(sheet.told(), (FRONT, BACK))


if __name__ == "__main__":
    unittest.main()
