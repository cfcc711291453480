"""Plates [82]: doubled and tumbled sheets, sheets turned over and tumbled over, and halves."""

import random
import unittest

from foldpress.errors import OutOfPlace, TooGreat
from foldpress.plates import doubled, halves_of, tumbled, tumbled_over, turned_over
from foldpress.sheet import Sheet, tumbled_back
from paper import Alike, change_deeply

SMALL = Sheet([[(1, False)]], [[(2, True)]])
FRONT = [[(1, False), (2, True), (0, False)], [(7, True), (70, False), (12, False)]]
BACK = [[(0, False), (3, False), (4, True)], [(5, True), (500, False), (2000, True)]]
NO_WAYS = ("", "Upright", "upright ", "uprigh", "level ", "Level", "left", "over", None, True, False, 0, 1, 2,
           ["upright"], ("level",), b"upright", b"level", {}, {"upright"}, object(), len, SMALL, Alike())


def all_sizes():
    return [(rows, columns) for rows in range(1, 9) for columns in range(1, 9) if rows * columns <= 32]


def sheet_of(rows, columns):
    """A sheet with turned pages and blanks, the same one each time."""
    picker = random.Random(rows * 10 + columns)
    faces = [(0, False)] + [(picker.randint(1, 2000), picker.random() < 0.5) for _ in range(7)]
    sides = [[[picker.choice(faces) for _ in range(columns)] for _ in range(rows)] for _ in range(2)]
    return Sheet(sides[0], sides[1])


def from_behind(rows):
    """What stands behind each cell of a side, told as that cell's face is seen when the sheet is not turned."""
    return [row[::-1] for row in rows]


def upside_down(rows):
    """A side that is turned in its plane by half: each row and column from behind, each head the other way."""
    return [[(page, page > 0 and not is_turned) for page, is_turned in row[::-1]] for row in rows[::-1]]


class TestWorkedOut(unittest.TestCase):
    def test_doubled(self):
        plate = [[(1, False), (2, True)]]
        self.assertEqual(doubled(SMALL).told(), (plate, plate))
        plate = [FRONT[0] + BACK[0], FRONT[1] + BACK[1]]
        self.assertEqual(doubled(Sheet(FRONT, BACK)).told(), (plate, plate))
        self.assertEqual(plate[0], [(1, False), (2, True), (0, False), (0, False), (3, False), (4, True)])

    def test_tumbled(self):
        self.assertEqual(tumbled(SMALL).told(), ([[(1, False)], [(2, False)]], [[(2, True)], [(1, True)]]))
        self.assertEqual(tumbled(Sheet(FRONT, BACK)).told(),
                         (FRONT + [[(2000, False), (500, True), (5, False)], [(4, False), (3, True), (0, False)]],
                          BACK + [[(12, True), (70, True), (7, False)], [(0, False), (2, False), (1, True)]]))

    def test_turned_and_tumbled_over(self):
        self.assertEqual(turned_over(SMALL).told(), ([[(2, True)]], [[(1, False)]]))
        self.assertEqual(tumbled_over(SMALL).told(), ([[(2, False)]], [[(1, True)]]))
        self.assertEqual(turned_over(Sheet(FRONT, BACK)).told(), (BACK, FRONT))
        self.assertEqual(tumbled_over(Sheet(FRONT, BACK)).told(),
                         ([[(2000, False), (500, True), (5, False)], [(4, False), (3, True), (0, False)]],
                          [[(12, True), (70, True), (7, False)], [(0, False), (2, False), (1, True)]]))

    def test_halves(self):
        sheet = Sheet([[(1, False), (2, True), (0, False), (4, False)], [(5, False), (6, False), (7, True), (8, True)]],
                      [[(11, False), (12, True), (13, False), (0, False)],
                       [(15, True), (16, True), (17, True), (18, True)]])
        left, right = halves_of(sheet, "upright")
        self.assertEqual(left.told(), ([[(1, False), (2, True)], [(5, False), (6, False)]],
                                       [[(13, False), (0, False)], [(17, True), (18, True)]]))
        self.assertEqual(right.told(), ([[(0, False), (4, False)], [(7, True), (8, True)]],
                                        [[(11, False), (12, True)], [(15, True), (16, True)]]))
        upper, lower = halves_of(sheet, "level")
        self.assertEqual(upper.told(), ([[(1, False), (2, True), (0, False), (4, False)]],
                                        [[(11, False), (12, True), (13, False), (0, False)]]))
        self.assertEqual(lower.told(), ([[(5, False), (6, False), (7, True), (8, True)]],
                                        [[(15, True), (16, True), (17, True), (18, True)]]))

    def test_kinds_of_what_is_told(self):
        sheet = sheet_of(2, 2)
        for told in (doubled(sheet), tumbled(sheet), turned_over(sheet), tumbled_over(sheet)):
            self.assertIs(type(told), Sheet)
        for way in ("upright", "level"):
            halves = halves_of(sheet, way)
            self.assertEqual([type(halves)] + [type(half) for half in halves], [tuple, Sheet, Sheet])


class TestAllSizes(unittest.TestCase):
    def test_doubled(self):
        for rows, columns in all_sizes():
            sheet = sheet_of(rows, columns)
            if 2 * columns > 8 or 2 * rows * columns > 32:
                self.assertRaises(TooGreat, doubled, sheet)
                continue
            front, back = doubled(sheet).told()
            self.assertEqual(front, back)
            left, right = halves_of(doubled(sheet), "upright")
            self.assertEqual(left.told(), sheet.told())
            self.assertEqual(right.told(), turned_over(sheet).told())

    def test_tumbled(self):
        for rows, columns in all_sizes():
            sheet = sheet_of(rows, columns)
            if 2 * rows > 8 or 2 * rows * columns > 32:
                self.assertRaises(TooGreat, tumbled, sheet)
                continue
            plate = tumbled(sheet)
            # One plate: turned about a level line the other side is seen as this one.
            self.assertEqual(tumbled_back(plate), plate.told()[0])
            self.assertEqual(tumbled_over(plate).told(), plate.told())
            upper, lower = halves_of(plate, "level")
            self.assertEqual(upper.told(), sheet.told())
            self.assertEqual(lower.told(), tumbled_over(sheet).told())

    def test_turned_over_twice(self):
        for rows, columns in all_sizes():
            sheet = sheet_of(rows, columns)
            front, back = sheet.told()
            self.assertEqual(turned_over(sheet).told(), (back, front))
            self.assertEqual(turned_over(turned_over(sheet)).told(), sheet.told())

    def test_tumbled_over_twice(self):
        for rows, columns in all_sizes():
            sheet = sheet_of(rows, columns)
            front, back = sheet.told()
            self.assertEqual(tumbled_over(sheet).told(), (upside_down(back), upside_down(front)))
            self.assertEqual(tumbled_over(tumbled_over(sheet)).told(), sheet.told())

    def test_halves(self):
        for rows, columns in all_sizes():
            sheet = sheet_of(rows, columns)
            front, back = sheet.told()
            behind = from_behind(back)
            for way, count in (("upright", columns), ("level", rows)):
                if count % 2 == 1:
                    self.assertRaises(OutOfPlace, halves_of, sheet, way)
                    continue
                for half, cut in zip(halves_of(sheet, way), (slice(0, count // 2), slice(count // 2, count))):
                    here, there = half.told()
                    if way == "upright":
                        expected = [[row[cut] for row in front], from_behind([row[cut] for row in behind])]
                    else:
                        expected = [front[cut], from_behind(behind[cut])]
                    self.assertEqual([here, there], expected)


class TestRefused(unittest.TestCase):
    def test_no_way(self):
        for rows, columns in ((2, 2), (1, 2), (2, 1), (1, 1), (4, 8)):
            for way in NO_WAYS:
                with self.assertRaises(OutOfPlace, msg=repr(way)):
                    halves_of(sheet_of(rows, columns), way)

    def test_odd_counts(self):
        for rows, columns, way in ((1, 1, "upright"), (1, 1, "level"), (2, 3, "upright"), (3, 2, "level"),
                                   (2, 7, "upright"), (5, 4, "level"), (2, 1, "upright"), (1, 2, "level")):
            with self.assertRaises(OutOfPlace):
                halves_of(sheet_of(rows, columns), way)

    def test_bounds(self):
        self.assertEqual(doubled(sheet_of(4, 4)).told()[0][0], sum([side[0] for side in sheet_of(4, 4).told()], []))
        self.assertEqual(len(tumbled(sheet_of(4, 4)).told()[0]), 8)
        self.assertRaises(TooGreat, doubled, sheet_of(1, 5))
        self.assertRaises(TooGreat, tumbled, sheet_of(5, 1))
        self.assertRaises(TooGreat, doubled, sheet_of(6, 3))
        self.assertRaises(TooGreat, tumbled, sheet_of(3, 6))
        self.assertRaises(TooGreat, doubled, sheet_of(4, 8))
        self.assertRaises(TooGreat, tumbled, sheet_of(4, 8))
        self.assertEqual(len(doubled(sheet_of(8, 2)).told()[0]), 8)
        self.assertEqual(len(tumbled(sheet_of(2, 8)).told()[0]), 4)


class TestOwn(unittest.TestCase):
    def test_sheets_stay_and_nothing_is_shared(self):
        sheet = sheet_of(2, 4)
        expected = repr(sheet.told())
        for ask in (doubled, tumbled, turned_over, tumbled_over, lambda sheet: halves_of(sheet, "upright")[0]):
            ahead = repr(ask(sheet).told())
            change_deeply(ask(sheet).told())
            self.assertEqual(repr(ask(sheet).told()), ahead)
            self.assertEqual(repr(sheet.told()), expected)


if __name__ == "__main__":
    unittest.main()
