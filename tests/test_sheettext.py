"""The texts of sheets [43]: written, read back, and refused at their first row and word."""

import unittest

from foldpress.sheet import Sheet
from foldpress.sheettext import read_sheet, sheet_text
from paper import NO_TEXTS, row_refused, with_row, with_word

FRONT = [[(1, False), (2000, True), (0, False)], [(7, True), (70, False), (12, False)]]
BACK = [[(0, False), (3, False), (4, True)], [(2, True), (500, False), (1999, True)]]
ROWS = ["1 2000' .", "7' 70 12", "back", ". 3 4'", "2' 500 1999'"]
TEXT = "1 2000' .\n7' 70 12\nback\n. 3 4'\n2' 500 1999'"
NO_PAGES = ("0", "0'", ".'", "..", "'", "''", "1''", "'1", "1'1", "01", "01'", "001", "0001", "00", "2001", "2001'",
            "2002", "3000", "9999", "9999'", "10000", "10000'", "01999", "-1", "+1", "1.", ".1", "1a", "a", "back",
            "back'", "Back", "front", "x", "1,", "1'.", "1`", "1\"", "None", "True", "sheet")


def refused(case, text):
    """The row and the word of the refusal of a text."""
    return row_refused(case, read_sheet, text)


def blank_row(columns):
    return " ".join(["."] * columns)


class TestWritten(unittest.TestCase):
    def test_rows_of_front_and_back(self):
        self.assertEqual(sheet_text(Sheet(FRONT, BACK)), TEXT)

    def test_one_cell(self):
        for front, back, text in (((1, False), (2, False), "1\nback\n2"), ((1, True), (0, False), "1'\nback\n."),
                                  ((0, False), (2000, True), ".\nback\n2000'"), ((0, False), (0, False), ".\nback\n.")):
            self.assertEqual(sheet_text(Sheet([[front]], [[back]])), text)

    def test_the_sheet_stays_as_it_is(self):
        sheet = Sheet(FRONT, BACK)
        sheet_text(sheet)
        self.assertEqual(sheet.told(), (FRONT, BACK))


class TestReadBack(unittest.TestCase):
    def test_the_text_read(self):
        sheet = read_sheet(TEXT)
        self.assertIs(type(sheet), Sheet)
        self.assertEqual(sheet.told(), (FRONT, BACK))

    def test_all_sizes(self):
        for rows in range(1, 9):
            for columns in range(1, 9):
                if rows * columns > 32:
                    continue
                front = [[(97 * row + column, column % 2 == 1) for column in range(1, columns + 1)]
                         for row in range(1, rows + 1)]
                back = [[(row * column, False) for column in range(columns)] for row in range(rows)]
                text = sheet_text(Sheet(front, back))
                self.assertEqual(len(text.split("\n")), 2 * rows + 1)
                self.assertEqual(read_sheet(text).told(), (front, back))

    def test_all_pages(self):
        for page in range(1, 2001):
            for is_turned in (False, True):
                sheet = Sheet([[(page, is_turned)]], [[(page, not is_turned)]])
                self.assertEqual(read_sheet(sheet_text(sheet)).told(), sheet.told())

    def test_each_text_makes_a_sheet_of_its_own(self):
        one, other = read_sheet(TEXT), read_sheet(TEXT)
        one.told()[0][0].clear()
        self.assertEqual(one.told(), (FRONT, BACK))
        self.assertEqual(other.told(), (FRONT, BACK))


class TestRefusedWords(unittest.TestCase):
    def test_no_text(self):
        for thing in NO_TEXTS:
            self.assertEqual(refused(self, thing), (1, 0), repr(thing))
        self.assertEqual(refused(self, ROWS), (1, 0))
        self.assertEqual(refused(self, TEXT.encode()), (1, 0))

    def test_no_pages(self):
        for at in (1, 2, 4, 5):
            for number in (1, 2, 3):
                for word in NO_PAGES:
                    self.assertEqual(refused(self, with_word(ROWS, at, number, word)), (at, number), word)

    def test_no_page_in_a_row_of_one_word(self):
        for word in NO_PAGES:
            self.assertEqual(refused(self, word), (1, 1), word)
            self.assertEqual(refused(self, word + "\nback\n1"), (1, 1), word)
            self.assertEqual(refused(self, "1\nback\n" + word), (3, 1), word)
            if word != "back":
                self.assertEqual(refused(self, "1\n" + word + "\nback\n1\n1"), (2, 1), word)

    def test_words_that_lack(self):
        for at, row in enumerate(ROWS, start=1):
            words = row.split(" ")
            if at in (2, 4, 5):
                self.assertEqual(refused(self, with_row(ROWS, at, words[0])), (at, 2))
                self.assertEqual(refused(self, with_row(ROWS, at, " ".join(words[:2]))), (at, 3))

    def test_words_that_are_too_many(self):
        for at in (2, 4, 5):
            for more in (".", "5", "5'", "x", "back", ". . . . . . . ."):
                self.assertEqual(refused(self, with_row(ROWS, at, ROWS[at - 1] + " " + more)), (at, 4))
        self.assertEqual(refused(self, "1\n1 2\nback\n1\n1"), (2, 2))
        self.assertEqual(refused(self, "1\nback\n1 2"), (3, 2))

    def test_the_first_row_says_how_many(self):
        self.assertEqual(refused(self, "1 2\n7' 70 12\nback\n. 3 4'\n2' 500 1999'"), (2, 3))
        self.assertEqual(refused(self, "1 2 3 4\n7' 70 12\nback\n. 3 4'\n2' 500 1999'"), (2, 4))

    def test_a_first_row_has_eight_words_at_most(self):
        for many in range(1, 9):
            row = blank_row(many)
            self.assertEqual(read_sheet(row + "\nback\n" + row).told(), ([[(0, False)] * many], [[(0, False)] * many]))
        for many in (9, 10, 32, 33, 100):
            row = blank_row(many)
            self.assertEqual(refused(self, row), (1, 9))
            self.assertEqual(refused(self, row + "\nback\n" + row), (1, 9))
        self.assertEqual(refused(self, blank_row(8) + " x"), (1, 9))

    def test_the_first_word_counts(self):
        self.assertEqual(refused(self, "x " + blank_row(9)), (1, 1))
        self.assertEqual(refused(self, ". x . x . . . . . ."), (1, 2))
        self.assertEqual(refused(self, blank_row(7) + " x . ."), (1, 8))
        self.assertEqual(refused(self, ". .\nx . .\nback"), (2, 1))
        self.assertEqual(refused(self, ". .\n. x .\nback"), (2, 2))
        self.assertEqual(refused(self, ". . .\nx\nback"), (2, 1))
        self.assertEqual(refused(self, ". . .\n. x\nback"), (2, 2))
        self.assertEqual(refused(self, ". .\nback\n. x ."), (3, 2))
        self.assertEqual(refused(self, ". . .\nback\nx"), (3, 1))

    def test_the_first_row_counts(self):
        self.assertEqual(refused(self, "1 x\n \nback"), (1, 2))
        self.assertEqual(refused(self, "1 2\n1\n1 2 \nback"), (2, 2))
        self.assertEqual(refused(self, "1 2\n1 2 \n1"), (2, 0))
        self.assertEqual(refused(self, "1\nback\n0\n1\n1"), (3, 1))
        self.assertEqual(refused(self, "1\n2\nback\n1\n1\n1\n\n"), (6, 0))
        self.assertEqual(refused(self, "1\n2\nback\n0"), (4, 1))


class TestRefusedRows(unittest.TestCase):
    def test_blanks_and_nothing(self):
        for at, row in enumerate(ROWS, start=1):
            for bad in ("", " ", "  ", " " + row, row + " ", row + "  ", "  " + row, ".  . .", "x  x", " x", "x "):
                self.assertEqual(refused(self, with_row(ROWS, at, bad)), (at, 0), repr(bad))

    def test_line_ends_at_an_end(self):
        self.assertEqual(refused(self, ""), (1, 0))
        self.assertEqual(refused(self, "\n"), (1, 0))
        self.assertEqual(refused(self, "\n" + TEXT), (1, 0))
        self.assertEqual(refused(self, "1\n"), (2, 0))
        self.assertEqual(refused(self, "1\nback\n"), (3, 0))
        self.assertEqual(refused(self, TEXT + "\n"), (6, 0))
        self.assertEqual(refused(self, TEXT + "\n\n"), (6, 0))

    def test_a_front_that_is_too_great(self):
        for columns in range(1, 9):
            most = min(8, 32 // columns)
            row = blank_row(columns)
            good = "\n".join([row] * most + ["back"] + [row] * most)
            self.assertEqual(read_sheet(good).told(), ([[(0, False)] * columns] * most,) * 2)
            for more in (1, 2, 5):
                for behind in ("", "\nback", "\nback" + ("\n" + row) * (most + more)):
                    self.assertEqual(refused(self, "\n".join([row] * (most + more)) + behind), (most + 1, 0))

    def test_its_words_are_ahead_of_that(self):
        for columns in range(1, 9):
            most = min(8, 32 // columns)
            ahead = (blank_row(columns) + "\n") * most
            self.assertEqual(refused(self, ahead + "x" + " ." * (columns - 1)), (most + 1, 1))
            self.assertEqual(refused(self, ahead + ". " * (columns - 1) + "0"), (most + 1, columns))
            self.assertEqual(refused(self, ahead + ". " * columns + "."), (most + 1, columns + 1))
            self.assertEqual(refused(self, ahead + ". " * columns + "x"), (most + 1, columns + 1))
            self.assertEqual(refused(self, ahead + blank_row(columns) + " "), (most + 1, 0))
            if columns > 1:
                self.assertEqual(refused(self, ahead + blank_row(columns - 1)), (most + 1, columns))

    def test_back_is_just_that_word(self):
        for row in ("back 1", "back .", "back back", "back'", "Back", "backs", "bac", "back' ."):
            self.assertEqual(refused(self, "1\n" + row + "\n2"), (2, 1), row)
            self.assertEqual(refused(self, "1 2\n" + row + "\n2 3"), (2, 1), row)
            self.assertEqual(refused(self, with_row(ROWS, 3, row)), (3, 1), row)
        self.assertEqual(refused(self, "1 2\n1 back\nback\n3 4\n3 4"), (2, 2))
        self.assertEqual(refused(self, "1 back\nback\n3 4"), (1, 2))
        for row in (" back", "back "):
            self.assertEqual(refused(self, with_row(ROWS, 3, row)), (3, 0))

    def test_back_where_no_row_is_ahead(self):
        for text in ("back", "back\nback", "back\n1", "back\n", "back\n1\nback\n1", "back 1", "back 1\nback\n1 2"):
            self.assertEqual(refused(self, text), (1, 1), repr(text))

    def test_back_a_second_time(self):
        self.assertEqual(refused(self, "1\nback\nback\n1"), (3, 1))
        self.assertEqual(refused(self, "1\n1\nback\n1\nback"), (5, 1))
        self.assertEqual(refused(self, "1\nback\n1\nback"), (4, 0))

    def test_a_row_behind_the_last_one_of_the_back(self):
        for row in ROWS + ["", " ", "x", "x y", "0", "back", ". . . . . . . . . .", " .", ". ", ".  ."]:
            self.assertEqual(refused(self, TEXT + "\n" + row), (6, 0), repr(row))
            self.assertEqual(refused(self, TEXT + "\n" + row + "\n" + row), (6, 0), repr(row))
            self.assertEqual(refused(self, "1\nback\n2\n" + row), (4, 0), repr(row))

    def test_rows_that_lack(self):
        for many in range(1, 5):
            self.assertEqual(refused(self, "\n".join(ROWS[:many])), (many + 1, 1))
        self.assertEqual(refused(self, "1"), (2, 1))
        self.assertEqual(refused(self, "1\nback"), (3, 1))
        self.assertEqual(refused(self, ("1\n" * 8)[:-1]), (9, 1))
        self.assertEqual(refused(self, "1\n" * 8 + "back" + "\n1" * 7), (17, 1))


if __name__ == "__main__":
    unittest.main()
