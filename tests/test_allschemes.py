"""All schemes of a size [50]: how many, which ones, in their order, and what is refused."""

import unittest

from foldpress.allschemes import all_schemes, count_schemes
from foldpress.errors import OutOfPlace, TooGreat
from foldpress.scheme import Scheme
from paper import EDGES, NO_NUMBERS, NO_SIZES, SMALL_SIZES, WAYS, all_folds, change_deeply, first_folds

# One row: 4 * 1, 4 * 4, 4 * (16 + 4), 4 * (80 + 16), 4 * (384 + 80 + 16) and so on.
ONE_ROW = (1, 4, 16, 80, 384, 1920, 9536, 47680)
# The sizes that have 2,000 schemes at the most.
ALL_TOLD = ((1, 1), (1, 2), (2, 1), (1, 3), (3, 1), (1, 4), (4, 1), (1, 5), (5, 1), (1, 6), (6, 1), (2, 2), (2, 3),
            (3, 2), (2, 4), (4, 2), (3, 3))


def rank(folds):
    return [(EDGES.index(edge), many, WAYS.index(way)) for edge, many, way in folds]


def counts():
    """The count for each size, from the smaller ones upwards."""
    known = {(1, 1): 1}
    for rows in range(1, 9):
        for columns in range(1, 9):
            if (rows, columns) != (1, 1):
                known[(rows, columns)] = sum(known[left] for _, left in first_folds(rows, columns))
    return known


class TestCounts(unittest.TestCase):
    def test_worked_out(self):
        for size, many in enumerate(ONE_ROW, start=1):
            self.assertEqual(count_schemes(1, size), many)
            self.assertEqual(count_schemes(size, 1), many)
        # 4 * 4 + 4 * 4; 4 * 32 + 4 * 16; 4 * (192 + 32) + 4 * 80; 4 * 192 + 4 * 192
        for rows, columns, many in ((2, 2, 32), (2, 3, 192), (2, 4, 1216), (3, 3, 1536), (2, 5, 7168), (4, 4, 103936),
                                    (5, 6, 59047936), (8, 4, 294569984), (4, 8, 294569984)):
            self.assertEqual(count_schemes(rows, columns), many)

    def test_each_size(self):
        for (rows, columns), many in counts().items():
            if rows * columns <= 32:
                self.assertEqual(count_schemes(rows, columns), many)
                self.assertIs(type(count_schemes(rows, columns)), int)

    def test_the_count_is_that_of_all(self):
        for rows, columns in ALL_TOLD:
            self.assertEqual(count_schemes(rows, columns), len(all_folds(rows, columns)))

    def test_no_sizes(self):
        for rows, columns in NO_SIZES:
            self.refused(rows, columns)
        for thing in NO_NUMBERS:
            self.refused(thing, 1)
            self.refused(1, thing)
            self.refused(thing, thing)

    def refused(self, rows, columns):
        with self.assertRaises(OutOfPlace, msg=repr((rows, columns))):
            count_schemes(rows, columns)


class TestAll(unittest.TestCase):
    def told(self, rows, columns):
        schemes = all_schemes(rows, columns)
        self.assertIs(type(schemes), list)
        for scheme in schemes:
            self.assertIs(type(scheme), Scheme)
            self.assertEqual(scheme.told()[:2], (rows, columns))
        return [scheme.told()[2] for scheme in schemes]

    def test_worked_out(self):
        self.assertEqual(self.told(1, 1), [[]])
        self.assertEqual(self.told(1, 2), [[("left", 1, "over")], [("left", 1, "under")],
                                           [("right", 1, "over")], [("right", 1, "under")]])
        self.assertEqual(self.told(2, 1), [[("top", 1, "over")], [("top", 1, "under")],
                                           [("bottom", 1, "over")], [("bottom", 1, "under")]])
        self.assertEqual(self.told(2, 2)[:6],
                         [[("left", 1, "over"), ("top", 1, "over")], [("left", 1, "over"), ("top", 1, "under")],
                          [("left", 1, "over"), ("bottom", 1, "over")], [("left", 1, "over"), ("bottom", 1, "under")],
                          [("left", 1, "under"), ("top", 1, "over")], [("left", 1, "under"), ("top", 1, "under")]])
        self.assertEqual(self.told(2, 2)[-1], [("bottom", 1, "under"), ("right", 1, "under")])
        long = self.told(1, 4)
        self.assertEqual(long[0], [("left", 1, "over")] * 3)
        self.assertEqual([folds[0] for folds in (long[16], long[32], long[36], long[40], long[79])],
                         [("left", 1, "under"), ("left", 2, "over"), ("left", 2, "under"), ("right", 1, "over"),
                          ("right", 2, "under")])

    def test_all_of_them_once_and_in_their_order(self):
        for rows, columns in ALL_TOLD:
            told = self.told(rows, columns)
            self.assertEqual(told, sorted(all_folds(rows, columns), key=rank))
            self.assertEqual(len({tuple(folds) for folds in told}), len(told))

    def test_too_many(self):
        for (rows, columns), many in counts().items():
            if rows * columns <= 32 and many > 2000:
                self.assertNotIn((rows, columns), ALL_TOLD)
                with self.assertRaises(TooGreat):
                    all_schemes(rows, columns)

    def test_no_sizes_ahead_of_too_many(self):
        for rows, columns in NO_SIZES:
            self.refused(rows, columns)
        for thing in NO_NUMBERS:
            self.refused(thing, 1)
            self.refused(1, thing)
            self.refused(8, thing)
            self.refused(thing, thing)

    def refused(self, rows, columns):
        with self.assertRaises(OutOfPlace, msg=repr((rows, columns))):
            all_schemes(rows, columns)

    def test_what_is_told_is_the_askers_own(self):
        for rows, columns in SMALL_SIZES:
            expected = self.told(rows, columns)
            schemes = all_schemes(rows, columns)
            for scheme in schemes:
                change_deeply(scheme.told())
            change_deeply(schemes)
            self.assertEqual(self.told(rows, columns), expected)


if __name__ == "__main__":
    unittest.main()
