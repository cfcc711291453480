"""The texts of schemes [3]: written, read back, and refused at their first row and word, BadRow ahead of BadScheme."""

import unittest

from foldpress.errors import BadScheme
from foldpress.scheme import Scheme
from foldpress.schemetext import read_scheme, scheme_rows, scheme_text
from paper import NO_TEXTS, change_deeply, many_schemes, row_refused, with_row, with_word

FOLDS = [("left", 2, "over"), ("top", 1, "under"), ("right", 1, "over"), ("bottom", 1, "under"), ("left", 1, "over")]
ROWS = ["sheet 3 5", "fold left 2 over", "fold top 1 under", "fold right 1 over", "fold bottom 1 under",
        "fold left 1 over"]
TEXT = ("sheet 3 5\nfold left 2 over\nfold top 1 under\nfold right 1 over\nfold bottom 1 under\n"
        "fold left 1 over")
NO_FIGURES = ("0", "9", "10", "11", "12", "18", "88", "01", "08", "00", "-1", "+1", "1.", "1a", "a", "x", "one",
              "left", "over", "sheet", "fold", "None", "True", ".", "'", "1'", "12345678", "2345")
NO_EDGES = ("Left", "LEFT", "lef", "leftt", "up", "down", "over", "under", "fold", "1", "0", "front", "lefttop", "-")
NO_WAYS = ("Over", "OVER", "ove", "overr", "behind", "within", "left", "top", "1", "0", "overunder", "-")


def refused(case, text):
    """The row and the word of the refusal of a text."""
    return row_refused(case, read_scheme, text)


def scheme_refused(case, text):
    """The at of the refusal; the test fails where there is none."""
    with case.assertRaises(BadScheme, msg=repr(text)) as caught:
        read_scheme(text)
    return caught.exception.at


class TestWritten(unittest.TestCase):
    def test_rows_and_text(self):
        scheme = Scheme(3, 5, FOLDS)
        self.assertEqual(scheme_rows(scheme), ROWS)
        self.assertEqual(scheme_text(scheme), TEXT)

    def test_a_sheet_of_one_cell_has_one_row(self):
        self.assertEqual(scheme_rows(Scheme(1, 1, [])), ["sheet 1 1"])
        self.assertEqual(scheme_text(Scheme(1, 1, [])), "sheet 1 1")

    def test_rows_stand_ahead_of_columns(self):
        self.assertEqual(scheme_text(Scheme(1, 2, [("right", 1, "under")])), "sheet 1 2\nfold right 1 under")
        self.assertEqual(scheme_text(Scheme(2, 1, [("bottom", 1, "over")])), "sheet 2 1\nfold bottom 1 over")

    def test_the_rows_are_the_askers_own(self):
        scheme = Scheme(3, 5, FOLDS)
        told = scheme_rows(scheme)
        self.assertIs(type(told), list)
        change_deeply(told)
        self.assertEqual(scheme_rows(scheme), ROWS)
        self.assertEqual(scheme.told(), (3, 5, FOLDS))


class TestReadBack(unittest.TestCase):
    def test_the_text_of_each_scheme(self):
        for rows, columns, folds in many_schemes():
            text = scheme_text(Scheme(rows, columns, folds))
            scheme = read_scheme(text)
            self.assertIs(type(scheme), Scheme)
            self.assertEqual(scheme.told(), (rows, columns, folds))
            self.assertEqual(scheme_text(scheme), text)

    def test_numbers_are_read_as_whole_numbers(self):
        told = read_scheme(TEXT).told()
        self.assertEqual(told, (3, 5, FOLDS))
        self.assertEqual([type(told[0]), type(told[1])] + [type(fold[1]) for fold in told[2]], [int] * 7)
        self.assertEqual({type(fold) for fold in told[2]}, {tuple})

    def test_each_figure_of_a_size(self):
        for size in range(1, 9):
            folds = "\nfold left 1 over" * (size - 1)
            self.assertEqual(read_scheme(f"sheet 1 {size}" + folds).told()[:2], (1, size))
            folds = "\nfold bottom 1 under" * (size - 1)
            self.assertEqual(read_scheme(f"sheet {size} 1" + folds).told()[:2], (size, 1))

    def test_each_text_makes_a_scheme_of_its_own(self):
        one, other = read_scheme(TEXT), read_scheme(TEXT)
        one.told()[2].clear()
        self.assertEqual(other.told(), (3, 5, FOLDS))
        self.assertEqual(one.told(), (3, 5, FOLDS))


class TestRefusedWords(unittest.TestCase):
    def test_no_text(self):
        for thing in NO_TEXTS:
            self.assertEqual(refused(self, thing), (1, 0), repr(thing))
        self.assertEqual(refused(self, ROWS), (1, 0))
        self.assertEqual(refused(self, TEXT.encode()), (1, 0))

    def test_no_first_word(self):
        for word in ("fold", "Sheet", "shee", "sheets", "scheme", "1", ".", "back"):
            self.assertEqual(refused(self, with_word(ROWS, 1, 1, word)), (1, 1), word)
        for at in range(2, 7):
            for word in ("sheet", "Fold", "fol", "folds", "left", "1", ".", "pages", "part"):
                self.assertEqual(refused(self, with_word(ROWS, at, 1, word)), (at, 1), word)

    def test_no_number(self):
        for word in NO_FIGURES:
            self.assertEqual(refused(self, with_word(ROWS, 1, 2, word)), (1, 2), word)
            self.assertEqual(refused(self, with_word(ROWS, 1, 3, word)), (1, 3), word)
            for at in range(2, 7):
                self.assertEqual(refused(self, with_word(ROWS, at, 3, word)), (at, 3), word)

    def test_no_edge_and_no_way(self):
        for at in range(2, 7):
            for word in NO_EDGES:
                self.assertEqual(refused(self, with_word(ROWS, at, 2, word)), (at, 2), word)
            for word in NO_WAYS:
                self.assertEqual(refused(self, with_word(ROWS, at, 4, word)), (at, 4), word)

    def test_words_that_lack(self):
        for at, row in enumerate(ROWS, start=1):
            words = row.split(" ")
            for many in range(1, len(words)):
                self.assertEqual(refused(self, with_row(ROWS, at, " ".join(words[:many]))), (at, many + 1))

    def test_words_that_are_too_many(self):
        for at, row in enumerate(ROWS, start=1):
            many = len(row.split(" "))
            for more in ("over", "1", "1 2 3", "fold", "sheet", "fold left 1 over"):
                self.assertEqual(refused(self, with_row(ROWS, at, row + " " + more)), (at, many + 1))

    def test_the_first_word_counts(self):
        self.assertEqual(refused(self, "sheets 9 0"), (1, 1))
        self.assertEqual(refused(self, "sheet 9 0"), (1, 2))
        self.assertEqual(refused(self, "sheet 0"), (1, 2))
        self.assertEqual(refused(self, "sheet 3 0 1"), (1, 3))
        self.assertEqual(refused(self, "sheet 1 2\nfold up 0 by"), (2, 2))
        self.assertEqual(refused(self, "sheet 1 2\nfold up"), (2, 2))
        self.assertEqual(refused(self, "sheet 1 2\nfold left 0 by"), (2, 3))
        self.assertEqual(refused(self, "sheet 1 2\nfold left 1 by 3"), (2, 4))

    def test_the_first_row_counts(self):
        for at in range(1, 6):
            for later in range(at + 1, 7):
                for bad in ("fold", " ", "fold left 1 over "):
                    rows = list(ROWS)
                    rows[at - 1] = rows[at - 1] + " more"
                    rows[later - 1] = bad
                    many = len(ROWS[at - 1].split(" "))
                    self.assertEqual(refused(self, "\n".join(rows)), (at, many + 1))

    def test_each_row_of_many(self):
        self.assertEqual(refused(self, "sheet 1 8" + "\nfold left 1 over" * 1000 + "\nfold left 1"), (1002, 4))


class TestRefusedRows(unittest.TestCase):
    def test_blanks_and_nothing(self):
        for at, row in enumerate(ROWS, start=1):
            for bad in ("", " ", "  ", " " + row, row + " ", row + "  ", row.replace(" ", "  ", 1),
                        "  ".join(row.split(" "))):
                self.assertEqual(refused(self, with_row(ROWS, at, bad)), (at, 0), repr(bad))

    def test_two_blanks_between_any_words(self):
        for at, row in enumerate(ROWS, start=1):
            words = row.split(" ")
            for number in range(1, len(words)):
                bad = " ".join(words[:number]) + "  " + " ".join(words[number:])
                self.assertEqual(refused(self, with_row(ROWS, at, bad)), (at, 0), repr(bad))

    def test_word_0_is_ahead_of_the_words(self):
        for bad in (" x", "x ", "sheet  9 9", "sheet 9 9 ", "x  x x x x"):
            self.assertEqual(refused(self, bad), (1, 0), repr(bad))
            self.assertEqual(refused(self, "sheet 1 2\n" + bad), (2, 0), repr(bad))

    def test_a_row_ahead_of_it_is_ahead_of_word_0(self):
        self.assertEqual(refused(self, "sheet 0 1\n fold left 1 over"), (1, 2))
        self.assertEqual(refused(self, "sheet 1 3\nfold left 1\nfold  left 1 over"), (2, 4))

    def test_a_line_end_at_an_end(self):
        self.assertEqual(refused(self, ""), (1, 0))
        self.assertEqual(refused(self, "\n"), (1, 0))
        self.assertEqual(refused(self, "\n" + TEXT), (1, 0))
        self.assertEqual(refused(self, TEXT + "\n"), (7, 0))
        self.assertEqual(refused(self, TEXT + "\n\n"), (7, 0))
        self.assertEqual(refused(self, TEXT.replace("\n", "\n\n", 1)), (2, 0))
        self.assertEqual(refused(self, "sheet 1 1\n"), (2, 0))


class TestRefusedSchemes(unittest.TestCase):
    def test_sizes_that_cant_be(self):
        for rows in range(1, 9):
            for columns in range(1, 9):
                if rows * columns > 32:
                    self.assertEqual(scheme_refused(self, f"sheet {rows} {columns}"), 0)
                    self.assertEqual(scheme_refused(self, f"sheet {rows} {columns}\nfold left 8 over"), 0)

    def test_folds_that_cant_be(self):
        self.assertEqual(scheme_refused(self, with_word(ROWS, 2, 3, "3")), 1)
        self.assertEqual(scheme_refused(self, with_word(ROWS, 3, 3, "2")), 2)
        self.assertEqual(scheme_refused(self, with_word(ROWS, 4, 3, "8")), 3)
        self.assertEqual(scheme_refused(self, with_word(ROWS, 6, 2, "top")), 5)
        self.assertEqual(scheme_refused(self, "sheet 1 1\nfold left 1 over"), 1)
        self.assertEqual(scheme_refused(self, TEXT + "\nfold left 1 over"), 6)

    def test_folds_that_lack(self):
        for many in range(5):
            self.assertEqual(scheme_refused(self, "\n".join(ROWS[:many + 1])), many + 1)
        self.assertEqual(scheme_refused(self, "sheet 8 4"), 1)

    def test_rows_are_ahead_of_the_scheme(self):
        self.assertEqual(refused(self, "sheet 8 8\nfold left 1"), (2, 4))
        self.assertEqual(refused(self, "sheet 8 8\n"), (2, 0))
        self.assertEqual(refused(self, "sheet 1 2\nfold left 8 over\nfold up 1 over"), (3, 2))
        self.assertEqual(refused(self, "sheet 1 1\nfold left 1 over\nfold left 1 over\nfold left 9 over"), (4, 3))


if __name__ == "__main__":
    unittest.main()
