"""Schemes [1] [2]: sizes, folds, what is refused and where, and what is told [0]."""

import unittest

from foldpress.errors import BadScheme
from foldpress.scheme import Scheme

# No whole numbers; True stands here, for it is no 1.
NO_NUMBERS = (None, True, False, "", "1", "2", [], [1], (), (1,), {}, set(), b"1", object(), len)
# What can't be a fold on a sheet of whatever size.
NO_FOLDS = (
    None, True, False, 0, 1, "", "left", "left 1 over", [], (), {}, set(), object(), len, b"left",
    ["left", 1, "over"], {"left": 1}, ("left",), ("left", 1), ("left", 1, "over", "over"), ("left", 1, "over", None),
    ("", 1, "over"), ("Left", 1, "over"), ("left ", 1, "over"), (" left", 1, "over"), ("lef", 1, "over"),
    ("up", 1, "over"), ("front", 1, "over"), ("over", 1, "left"), ("lefttop", 1, "over"),
    (None, 1, "over"), (0, 1, "over"), (True, 1, "over"), (["left"], 1, "over"), (("left",), 1, "over"),
    (b"left", 1, "over"), ({}, 1, "over"), (1, "left", "over"),
    ("left", 0, "over"), ("left", -1, "over"), ("left", -2, "over"), ("left", True, "over"), ("left", False, "over"),
    ("left", None, "over"), ("left", "1", "over"), ("left", [1], "over"), ("left", (1,), "over"), ("left", {}, "over"),
    ("left", 10 ** 40, "over"), ("left", -10 ** 40, "over"), ("top", 0, "under"), ("top", True, "under"),
    ("left", 1, ""), ("left", 1, "Over"), ("left", 1, "over "), ("left", 1, "ove"), ("left", 1, "behind"),
    ("left", 1, "within"), ("left", 1, "left"), ("left", 1, None), ("left", 1, True), ("left", 1, 1),
    ("left", 1, ["over"]), ("left", 1, ("over",)), ("left", 1, b"over"), ("left", 1, {}),
)
GOOD = [("left", 2, "over"), ("top", 1, "under"), ("right", 1, "over"), ("bottom", 1, "under"), ("left", 1, "over")]


def single_folds(rows, columns):
    """Folds of one row or column each, down to one place."""
    return [("bottom", 1, "under")] * (rows - 1) + [("right", 1, "over")] * (columns - 1)


def refused_at(case, rows, columns, folds):
    """The at of the refusal; the test fails where there is none."""
    with case.assertRaises(BadScheme) as caught:
        Scheme(rows, columns, folds)
    case.assertIs(type(caught.exception.at), int)
    return caught.exception.at


class TestSizes(unittest.TestCase):
    def test_all_sizes(self):
        for rows in range(-1, 34):
            for columns in range(-1, 34):
                folds = single_folds(rows, columns)
                if 1 <= rows <= 8 and 1 <= columns <= 8 and rows * columns <= 32:
                    self.assertEqual(Scheme(rows, columns, folds).told(), (rows, columns, folds))
                else:
                    self.assertEqual(refused_at(self, rows, columns, folds), 0, (rows, columns))

    def test_edges_of_the_sizes(self):
        for rows, columns in ((8, 4), (4, 8), (6, 5), (5, 6), (1, 8), (8, 1), (1, 1)):
            self.assertEqual(Scheme(rows, columns, single_folds(rows, columns)).told()[:2], (rows, columns))
        for rows, columns in ((8, 5), (5, 8), (6, 6), (7, 5), (3, 11), (1, 9), (9, 1), (1, 32), (0, 1), (1, 0),
                              (-1, -1), (-2, 3), (10 ** 40, 1), (1, 10 ** 40)):
            self.assertEqual(refused_at(self, rows, columns, single_folds(1, 1)), 0, (rows, columns))

    def test_sizes_that_are_no_numbers(self):
        for thing in NO_NUMBERS:
            for rows, columns, folds in ((thing, 1, []), (1, thing, []), (thing, thing, []),
                                         (thing, 2, [("left", 1, "over")]), (2, thing, [("top", 1, "over")])):
                self.assertEqual(refused_at(self, rows, columns, folds), 0, (rows, columns))

    def test_a_size_is_refused_ahead_of_the_folds(self):
        for folds in ([None], [("left", 0, "over")], [("left", 1, "over"), None], [], None):
            self.assertEqual(refused_at(self, 9, 1, folds), 0)
            self.assertEqual(refused_at(self, 6, 6, folds), 0)
            self.assertEqual(refused_at(self, "2", 1, folds), 0)


class TestFoldsThatCanBe(unittest.TestCase):
    def test_every_edge_and_way(self):
        for way in ("over", "under"):
            for edge in ("left", "right"):
                self.assertEqual(Scheme(1, 2, [(edge, 1, way)]).told(), (1, 2, [(edge, 1, way)]))
                self.assertEqual(refused_at(self, 2, 1, [(edge, 1, way)]), 1)
            for edge in ("top", "bottom"):
                self.assertEqual(Scheme(2, 1, [(edge, 1, way)]).told(), (2, 1, [(edge, 1, way)]))
                self.assertEqual(refused_at(self, 1, 2, [(edge, 1, way)]), 1)

    def test_half_of_what_is_left_at_most(self):
        for size in range(1, 9):
            for many in range(1, 11):
                rest = size - many - 1
                for edge in ("left", "right"):
                    folds = [(edge, many, "over")] + [("left", 1, "under")] * rest
                    if 2 * many <= size:
                        self.assertEqual(Scheme(1, size, folds).told(), (1, size, folds))
                    else:
                        self.assertEqual(refused_at(self, 1, size, folds), 1, (size, many))
                for edge in ("top", "bottom"):
                    folds = [(edge, many, "under")] + [("top", 1, "over")] * rest
                    if 2 * many <= size:
                        self.assertEqual(Scheme(size, 1, folds).told(), (size, 1, folds))
                    else:
                        self.assertEqual(refused_at(self, size, 1, folds), 1, (size, many))

    def test_what_is_left_counts_and_not_the_sheet(self):
        good = [("left", 3, "over"), ("right", 2, "under"), ("left", 1, "over"), ("right", 1, "over")]
        self.assertEqual(Scheme(1, 8, good).told(), (1, 8, good))
        self.assertEqual(refused_at(self, 1, 8, [("left", 3, "over"), ("right", 3, "under")]), 2)
        self.assertEqual(refused_at(self, 1, 8, [("left", 3, "over"), ("right", 2, "under"), ("left", 2, "over")]), 3)

    def test_rows_and_columns_are_left_apart(self):
        folds = [("top", 2, "over"), ("left", 2, "over"), ("bottom", 1, "under"), ("right", 1, "under")]
        self.assertEqual(Scheme(4, 4, folds).told(), (4, 4, folds))
        self.assertEqual(refused_at(self, 2, 8, [("top", 1, "over"), ("bottom", 1, "over")]), 2)
        self.assertEqual(refused_at(self, 8, 2, [("left", 1, "over"), ("right", 1, "over")]), 2)

    def test_an_uneven_count_is_folded_too(self):
        folds = [("top", 1, "over"), ("left", 2, "over"), ("top", 1, "over"), ("left", 1, "over"), ("left", 1, "under")]
        self.assertEqual(Scheme(3, 5, folds).told(), (3, 5, folds))

    def test_a_sheet_of_one_cell_has_no_folds(self):
        self.assertEqual(Scheme(1, 1, []).told(), (1, 1, []))
        for edge in ("left", "right", "top", "bottom"):
            self.assertEqual(refused_at(self, 1, 1, [(edge, 1, "over")]), 1)


class TestFoldsThatCantBe(unittest.TestCase):
    def test_folds_that_are_no_list(self):
        for folds in (None, True, False, 0, 1, "", "left", (), (("left", 1, "over"),), {}, set(), b"", object(), len):
            self.assertEqual(refused_at(self, 1, 2, folds), 0, repr(folds))
            self.assertEqual(refused_at(self, 1, 1, folds), 0, repr(folds))

    def test_a_tuple_of_good_folds_is_no_list(self):
        self.assertEqual(refused_at(self, 3, 5, tuple(GOOD)), 0)
        self.assertEqual(refused_at(self, 3, 5, {fold: True for fold in GOOD}), 0)

    def test_each_kind_at_each_number(self):
        for wrong in NO_FOLDS:
            for at in range(len(GOOD)):
                folds = GOOD[:at] + [wrong] + GOOD[at + 1:]
                self.assertEqual(refused_at(self, 3, 5, folds), at + 1, repr(wrong))
                self.assertEqual(refused_at(self, 3, 5, folds[:at + 1]), at + 1, repr(wrong))

    def test_each_kind_on_the_least_sheets(self):
        for wrong in NO_FOLDS:
            self.assertEqual(refused_at(self, 1, 2, [wrong]), 1, repr(wrong))
            self.assertEqual(refused_at(self, 2, 2, [wrong]), 1, repr(wrong))
            self.assertEqual(refused_at(self, 1, 1, [wrong]), 1, repr(wrong))

    def test_the_first_one_counts(self):
        for at in range(len(GOOD) - 1):
            for later in range(at + 1, len(GOOD)):
                folds = list(GOOD)
                folds[at] = ("left", 0, "over")
                folds[later] = None
                self.assertEqual(refused_at(self, 3, 5, folds), at + 1)
                folds[at], folds[later] = folds[later], folds[at]
                self.assertEqual(refused_at(self, 3, 5, folds), at + 1)

    def test_one_that_is_too_many_ahead_of_one_of_a_wrong_form(self):
        self.assertEqual(refused_at(self, 3, 5, [("left", 3, "over"), None]), 1)
        self.assertEqual(refused_at(self, 3, 5, [("left", 2, "over"), ("left", 2, "over"), None]), 2)
        self.assertEqual(refused_at(self, 3, 5, [None, ("left", 3, "over")]), 1)

    def test_folds_that_lack(self):
        for many in range(len(GOOD)):
            self.assertEqual(refused_at(self, 3, 5, GOOD[:many]), many + 1)
        for rows, columns in ((1, 2), (2, 1), (8, 4), (8, 1), (1, 8)):
            self.assertEqual(refused_at(self, rows, columns, []), 1)

    def test_folds_that_lack_of_rows_or_of_columns_alone(self):
        self.assertEqual(refused_at(self, 2, 2, [("left", 1, "over")]), 2)
        self.assertEqual(refused_at(self, 2, 2, [("top", 1, "over")]), 2)
        self.assertEqual(refused_at(self, 2, 4, [("left", 2, "over"), ("left", 1, "over")]), 3)

    def test_folds_behind_the_end(self):
        for edge in ("left", "right", "top", "bottom"):
            for many in (1, 2):
                more = (edge, many, "under")
                self.assertEqual(refused_at(self, 3, 5, GOOD + [more]), len(GOOD) + 1)
                self.assertEqual(refused_at(self, 3, 5, GOOD + [more, more]), len(GOOD) + 1)
        for wrong in NO_FOLDS:
            self.assertEqual(refused_at(self, 3, 5, GOOD + [wrong]), len(GOOD) + 1)


class TestTold(unittest.TestCase):
    def test_told_is_as_handed_in(self):
        told = Scheme(3, 5, list(GOOD)).told()
        self.assertEqual(told, (3, 5, GOOD))
        self.assertIs(type(told), tuple)
        self.assertEqual([type(thing) for thing in told], [int, int, list])
        for fold in told[2]:
            self.assertEqual([type(fold)] + [type(thing) for thing in fold], [tuple, str, int, str])

    def test_told_belongs_to_the_class_itself(self):
        self.assertIn("told", vars(Scheme))
        self.assertEqual(Scheme.__module__, "foldpress.scheme")

    def test_what_is_handed_in_is_not_changed(self):
        folds = list(GOOD)
        Scheme(3, 5, folds).told()
        self.assertEqual(folds, GOOD)

    def test_what_is_refused_changes_nothing(self):
        for wrong in (None, ["left", 1, "over"], ("left", 9, "over")):
            folds = GOOD[:2] + [wrong] + GOOD[2:]
            refused_at(self, 3, 5, folds)
            self.assertEqual(folds, GOOD[:2] + [wrong] + GOOD[2:])

    def test_a_later_change_of_what_was_handed_in(self):
        for change in (list.clear, list.pop, list.reverse, lambda folds: folds.append(("left", 1, "over")),
                       lambda folds: folds.__setitem__(0, None)):
            folds = list(GOOD)
            scheme = Scheme(3, 5, folds)
            change(folds)
            self.assertEqual(scheme.told(), (3, 5, GOOD))

    def test_a_later_change_of_what_was_told(self):
        scheme = Scheme(3, 5, list(GOOD))
        for change in (list.clear, list.pop, list.reverse, lambda folds: folds.append(("left", 1, "over")),
                       lambda folds: folds.__setitem__(0, None)):
            earlier = scheme.told()
            change(scheme.told()[2])
            self.assertEqual(scheme.told(), (3, 5, GOOD))
            self.assertEqual(earlier, (3, 5, GOOD))

    def test_schemes_of_one_list_stand_apart(self):
        folds = [("left", 1, "over")]
        one = Scheme(1, 2, folds)
        folds[0] = ("right", 1, "under")
        other = Scheme(1, 2, folds)
        self.assertEqual(one.told(), (1, 2, [("left", 1, "over")]))
        self.assertEqual(other.told(), (1, 2, [("right", 1, "under")]))

    def test_what_a_sheet_of_one_cell_tells_is_the_askers_own(self):
        scheme = Scheme(1, 1, [])
        scheme.told()[2].append(("left", 1, "over"))
        self.assertEqual(scheme.told(), (1, 1, []))


if __name__ == "__main__":
    unittest.main()
