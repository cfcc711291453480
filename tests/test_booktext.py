"""The texts of books [100]: written, read back, and refused at their first row and word, then as schemes and books."""

import unittest

from foldpress.book import Book
from foldpress.booktext import book_text, read_book
from foldpress.errors import BadBook, BadScheme
from foldpress.scheme import Scheme
from foldpress.schemetext import scheme_rows
from paper import NO_TEXTS, change_deeply, many_schemes, row_refused, told_parts, with_row, with_word

FOLIO = Scheme(1, 2, [("left", 1, "over")])
QUARTO = Scheme(2, 2, [("top", 1, "under"), ("left", 1, "over")])
ONE = Scheme(1, 1, [])
ROWS = ["scheme quarto", "sheet 2 2", "fold top 1 under", "fold left 1 over", "scheme a", "sheet 1 1", "scheme folio",
        "sheet 1 2", "fold left 1 over", "pages 13", "part quarto behind", "part folio within", "part a behind"]
TEXT = "\n".join(ROWS)
NO_NAMES = ("Quarto", "FOLIO", "a1", "1", "0", "ninesigns", "a_b", "a-b", "a.b", ".", "quarto,", "'", "None1", "A",
            "\ta")
NO_COUNTS = ("0", "01", "013", "00", "2001", "9999", "10000", "02000", "-1", "+1", "1.", "1a", "a", "thirteen", "x",
             "1,000", "pages", "'")
NO_FIGURES = ("0", "9", "10", "01", "-1", "+1", "1.", "a", "x", "12", "sheet")
NO_EDGES = ("Left", "lef", "lefts", "over", "up", "1", "x", "fold")
NO_WAYS = ("Over", "ove", "overs", "left", "behind", "1", "x", "fold")
NO_HOWS = ("Behind", "behin", "behinds", "with", "withins", "in", "over", "1", "x", "part", "quarto")


def refused(case, text):
    """The row and the word of the refusal of a text."""
    return row_refused(case, read_book, text)


def told(names, book):
    """All that a text tells."""
    pages, parts = book.told()
    return ([(name, scheme.told()) for name, scheme in names], pages, told_parts(parts))


def told_of(text):
    return told(*read_book(text))


def names_of(many):
    return [chr(ord("a") + number) for number in range(many)]


def text_of_schemes(many, behind=("pages 1", "part a behind")):
    """A text of so many schemes of one cell."""
    rows = []
    for name in names_of(many):
        rows += ["scheme " + name, "sheet 1 1"]
    return "\n".join(rows + list(behind))


class TestWritten(unittest.TestCase):
    def test_all_rows(self):
        names = [("quarto", QUARTO), ("a", ONE), ("folio", FOLIO)]
        book = Book(13, [(QUARTO, "behind"), (FOLIO, "within"), (ONE, "behind")])
        self.assertEqual(book_text(names, book), TEXT)

    def test_like_schemes_are_other_objects(self):
        names = [("folio", Scheme(1, 2, [("left", 1, "over")])), ("under", Scheme(1, 2, [("left", 1, "under")]))]
        book = Book(8, [(Scheme(1, 2, [("left", 1, "under")]), "behind"), (FOLIO, "within")])
        self.assertEqual(book_text(names, book),
                         "scheme folio\nsheet 1 2\nfold left 1 over\nscheme under\nsheet 1 2\nfold left 1 under\n"
                         "pages 8\npart under behind\npart folio within")

    def test_of_several_names_parts_have_the_first(self):
        names = [("one", ONE), ("b", FOLIO), ("a", FOLIO), ("c", Scheme(1, 2, [("left", 1, "over")]))]
        text = book_text(names, Book(7, [(FOLIO, "behind"), (FOLIO, "behind")]))
        self.assertEqual(text.split("\n")[-3:], ["pages 7", "part b behind", "part b behind"])
        self.assertEqual([row for row in text.split("\n") if row.startswith("scheme")],
                         ["scheme one", "scheme b", "scheme a", "scheme c"])

    def test_schemes_that_impose_alike_are_not_like_schemes(self):
        one = Scheme(1, 3, [("left", 1, "over"), ("right", 1, "under")])
        other = Scheme(1, 3, [("right", 1, "under"), ("left", 1, "over")])
        names = [("one", one), ("other", other)]
        text = book_text(names, Book(12, [(other, "behind"), (one, "behind")]))
        self.assertEqual(text.split("\n")[-2:], ["part other behind", "part one behind"])

    def test_what_is_handed_in_stays(self):
        names = [("quarto", QUARTO), ("a", ONE), ("folio", FOLIO)]
        book = Book(13, [(QUARTO, "behind"), (FOLIO, "within"), (ONE, "behind")])
        ahead = told(names, book)
        book_text(names, book)
        self.assertEqual(told(names, book), ahead)
        self.assertEqual(len(names), 3)


class TestReadBack(unittest.TestCase):
    def test_the_text_read(self):
        names, book = read_book(TEXT)
        self.assertEqual(told(names, book),
                         ([("quarto", QUARTO.told()), ("a", ONE.told()), ("folio", FOLIO.told())], 13,
                          [(QUARTO.told(), "behind"), (FOLIO.told(), "within"), (ONE.told(), "behind")]))
        self.assertEqual([type(read_book(TEXT)), type(names), type(book)], [tuple, list, Book])
        for pair in names:
            self.assertEqual([type(pair)] + [type(part) for part in pair], [tuple, str, Scheme])
        self.assertIs(type(book.told()[0]), int)
        self.assertEqual(book_text(names, book), TEXT)

    def test_the_least_text(self):
        self.assertEqual(told_of("scheme a\nsheet 1 1\npages 1\npart a behind"),
                         ([("a", ONE.told())], 1, [(ONE.told(), "behind")]))

    def test_names(self):
        for name in ("a", "z", "abcdefgh", "scheme", "sheet", "fold", "pages", "part", "behind", "within", "left",
                     "over"):
            text = f"scheme {name}\nsheet 1 1\npages 2\npart {name} behind"
            self.assertEqual(told_of(text)[0], [(name, ONE.told())])
            self.assertEqual(book_text(*read_book(text)), text)

    def test_one_to_eight_schemes(self):
        for many in range(1, 9):
            self.assertEqual([name for name, _ in read_book(text_of_schemes(many))[0]], names_of(many))

    def test_like_schemes_by_several_names(self):
        text = text_of_schemes(3, ("pages 5", "part c behind", "part b behind", "part a behind"))
        names, book = read_book(text)
        self.assertEqual(told_parts(book.told()[1]), [(ONE.told(), "behind")] * 3)
        self.assertEqual(book_text(names, book), text.replace("part b", "part a").replace("part c", "part a"))

    def test_counts_of_pages(self):
        great = Scheme(4, 8, [("left", 4, "over"), ("top", 2, "over"), ("left", 2, "over"), ("top", 1, "over"),
                              ("left", 1, "over")])
        ahead = "\n".join(["scheme great"] + scheme_rows(great))
        for pages in (1, 2, 9, 10, 63, 64, 65, 999, 1000, 1999, 2000):
            parts = "\npart great behind" * ((pages + 63) // 64)
            text = f"{ahead}\npages {pages}{parts}"
            names, book = read_book(text)
            self.assertEqual(book.told()[0], pages)
            self.assertEqual(book_text(names, book), text)

    def test_a_thousand_parts(self):
        for pages, rows in ((2000, ["part a behind"] * 1000), (2000, ["part b behind"] + ["part b within"] * 999)):
            text = "\n".join(["scheme a", "sheet 1 1", "scheme b", "sheet 1 2", "fold left 1 over",
                              f"pages {pages}"] + rows)
            self.assertLess(len(text), 20000)
            names, book = read_book(text)
            self.assertEqual(len(book.told()[1]), 1000)
            self.assertEqual(book_text(names, book), text)

    def test_many_schemes(self):
        for rows, columns, folds in many_schemes()[::5]:
            scheme = Scheme(rows, columns, folds)
            text = book_text([("folio", FOLIO), ("it", scheme)], Book(3, [(scheme, "behind")] if rows * columns > 1 else
                                                                      [(scheme, "behind"), (scheme, "behind")]))
            names, book = read_book(text)
            self.assertEqual([one.told() for _, one in names], [FOLIO.told(), scheme.told()])
            self.assertEqual(book.told()[1][0][0].told(), scheme.told())
            self.assertEqual(book_text(names, book), text)

    def test_each_text_makes_a_book_of_its_own(self):
        ahead = repr(told_of(TEXT))
        names, book = read_book(TEXT)
        change_deeply(book.told())
        change_deeply(names)
        self.assertEqual(repr(told_of(TEXT)), ahead)
        names, book = read_book(TEXT)
        names[0][1].__init__(1, 1, [])
        self.assertEqual(book.told()[1][0][0].told(), QUARTO.told())


class TestRefusedWords(unittest.TestCase):
    def test_no_text(self):
        for thing in NO_TEXTS:
            self.assertEqual(refused(self, thing), (1, 0), repr(thing))
        self.assertEqual(refused(self, ROWS), (1, 0))
        self.assertEqual(refused(self, TEXT.encode()), (1, 0))

    def test_first_words(self):
        kinds = ("scheme", "sheet", "fold", "pages", "part")
        behind = {"": ("scheme",), "scheme": ("sheet",), "sheet": ("fold", "scheme", "pages"),
                  "fold": ("fold", "scheme", "pages"), "pages": ("part",), "part": ("part",)}
        for at in range(1, len(ROWS) + 1):
            ahead = ROWS[at - 2].split(" ")[0] if at > 1 else ""
            for kind in kinds + ("x", "1", "Scheme", "schemes", "parts", "page", "behind", "'", "."):
                if kind not in behind[ahead]:
                    self.assertEqual(refused(self, with_row(ROWS, at, kind)), (at, 1))
                    self.assertEqual(refused(self, with_word(ROWS, at, 1, kind)), (at, 1))
                    self.assertEqual(refused(self, with_row(ROWS, at, kind + " x y z a b c")), (at, 1))

    def test_a_row_that_can_stand_there_but_not_so(self):
        self.assertEqual(refused(self, with_row(ROWS, 3, "pages 4")), (4, 1))
        self.assertEqual(refused(self, with_row(ROWS, 3, "scheme b")), (4, 1))
        self.assertEqual(refused(self, with_row(ROWS, 5, "fold left 1 over")), (6, 1))
        self.assertEqual(refused(self, with_row(ROWS, 10, "scheme b")), (11, 1))

    def test_names(self):
        for at in (1, 5, 7):
            for word in NO_NAMES:
                self.assertEqual(refused(self, with_word(ROWS, at, 2, word)), (at, 2), word)

    def test_a_name_a_second_time(self):
        self.assertEqual(refused(self, with_word(ROWS, 5, 2, "quarto")), (5, 2))
        self.assertEqual(refused(self, with_word(ROWS, 7, 2, "quarto")), (7, 2))
        self.assertEqual(refused(self, with_word(ROWS, 7, 2, "a")), (7, 2))
        self.assertEqual(refused(self, with_row(ROWS, 7, "scheme a b")), (7, 2))
        self.assertEqual(refused(self, with_row(ROWS, 7, "scheme b a")), (7, 3))

    def test_sheets_and_folds(self):
        for at in (2, 6, 8):
            for number in (2, 3):
                for word in NO_FIGURES:
                    self.assertEqual(refused(self, with_word(ROWS, at, number, word)), (at, number), word)
        for at in (3, 4, 9):
            for number, words in ((2, NO_EDGES), (3, NO_FIGURES), (4, NO_WAYS)):
                for word in words:
                    self.assertEqual(refused(self, with_word(ROWS, at, number, word)), (at, number), word)

    def test_counts_of_pages(self):
        for word in NO_COUNTS:
            self.assertEqual(refused(self, with_word(ROWS, 10, 2, word)), (10, 2), word)

    def test_parts(self):
        for at in (11, 12, 13):
            for word in NO_NAMES + ("b", "quart", "quartos", "behind", "within", "part"):
                self.assertEqual(refused(self, with_word(ROWS, at, 2, word)), (at, 2), word)
            for word in NO_HOWS:
                self.assertEqual(refused(self, with_word(ROWS, at, 3, word)), (at, 3), word)

    def test_words_that_lack_and_that_are_too_many(self):
        for at, row in enumerate(ROWS, start=1):
            words = row.split(" ")
            for many in range(1, len(words)):
                self.assertEqual(refused(self, with_row(ROWS, at, " ".join(words[:many]))), (at, many + 1))
            for more in ("x", "1", "behind", words[-1], "x y z", words[0]):
                self.assertEqual(refused(self, with_row(ROWS, at, row + " " + more)), (at, len(words) + 1))

    def test_the_first_word_counts(self):
        for row, at, word in (("scheme A x", 1, 2), ("Scheme A", 1, 1), ("sheet 0 0 0", 2, 2), ("sheet 1 0 0", 2, 3),
                              ("fold x 0 x x", 3, 2), ("fold top 0 x", 3, 3), ("fold top 1 x x", 3, 4),
                              ("pages 0 x", 10, 2), ("part x x x", 11, 2), ("part a x x", 11, 3), ("part x", 11, 2)):
            self.assertEqual(refused(self, with_row(ROWS, at, row)), (at, word), row)

    def test_the_first_row_counts(self):
        rows = list(ROWS)
        for at in range(len(rows), 0, -1):
            rows[at - 1] = rows[at - 1] + " x"
            self.assertEqual(refused(self, "\n".join(rows)), (at, len(rows[at - 1].split(" "))))
            rows[at - 1] = ROWS[at - 1] + " "
            self.assertEqual(refused(self, "\n".join(rows)), (at, 0))


class TestRefusedRows(unittest.TestCase):
    def test_blanks_and_nothing(self):
        for at, row in enumerate(ROWS, start=1):
            for bad in ("", " ", "  ", " " + row, row + " ", row.replace(" ", "  ", 1), "x  x", " x", "x "):
                self.assertEqual(refused(self, with_row(ROWS, at, bad)), (at, 0), repr(bad))

    def test_line_ends_at_an_end(self):
        for text, row in (("", 1), ("\n", 1), ("\n" + TEXT, 1), (TEXT + "\n", 14), (TEXT + "\n\n", 14),
                          ("scheme a\n", 2), ("scheme a\nsheet 1 1\n", 3)):
            self.assertEqual(refused(self, text), (row, 0))

    def test_rows_that_lack(self):
        for many in range(1, 11):
            self.assertEqual(refused(self, "\n".join(ROWS[:many])), (many + 1, 1))
        for many in (11, 12):
            # With one part and with two the text is whole: it is the book that can't be.
            self.assertRaises(BadBook, read_book, "\n".join(ROWS[:many]))

    def test_a_ninth_scheme(self):
        nine = text_of_schemes(9)
        self.assertEqual(refused(self, nine), (17, 1))
        self.assertEqual(refused(self, text_of_schemes(20)), (17, 1))
        eight = text_of_schemes(8, ())
        for row in ("scheme a", "scheme", "scheme i", "scheme 1", "scheme i i", "sheet 1 1", "part a behind"):
            self.assertEqual(refused(self, eight + "\n" + row), (17, 1))
        self.assertEqual(refused(self, eight + "\nscheme "), (17, 0))
        self.assertEqual(refused(self, eight + "\nfold"), (17, 2))
        self.assertEqual(refused(self, eight), (17, 1))

    def test_a_row_behind_the_thousandth_part(self):
        text = "\n".join(["scheme a", "sheet 1 1", "pages 2000"] + ["part a behind"] * 1000)
        self.assertEqual(len(read_book(text)[1].told()[1]), 1000)
        for row in ("part a behind", "part a within", "part", "x", "", " ", "part b behind", " part a behind",
                    "scheme b"):
            self.assertEqual(refused(self, text + "\n" + row), (1004, 0), repr(row))
            self.assertEqual(refused(self, text + "\n" + row + "\n" + row), (1004, 0), repr(row))
        # The thousandth one itself is a row like others.
        short = text[:-len("\npart a behind")]
        self.assertEqual(refused(self, short + "\npart b behind"), (1003, 2))
        self.assertEqual(refused(self, short + "\n"), (1003, 0))
        self.assertEqual(refused(self, short + "\nx"), (1003, 1))


class TestRefusedBehindThat(unittest.TestCase):
    def refused_at(self, text, at):
        with self.assertRaises(BadScheme, msg=text) as caught:
            read_book(text)
        self.assertEqual(caught.exception.at, at)

    def test_the_first_scheme_that_cant_be(self):
        self.refused_at(with_row(ROWS, 2, "sheet 8 8"), 0)
        self.refused_at(with_row(ROWS, 2, "sheet 1 2"), 1)
        self.refused_at(with_row(ROWS, 2, "sheet 2 3"), 3)
        self.refused_at(with_row(ROWS, 3, "fold top 2 under"), 1)
        self.refused_at(with_row(ROWS, 4, "fold left 2 over"), 2)
        self.refused_at(with_row(ROWS, 4, "fold top 1 over"), 2)
        self.refused_at(with_row(ROWS, 9, "fold left 2 over"), 1)
        self.refused_at(with_row(ROWS, 6, "sheet 1 2"), 1)
        self.refused_at("\n".join(ROWS[:3] + ROWS[4:]), 2)
        self.refused_at("\n".join(ROWS[:6] + ["fold left 1 over"] + ROWS[6:]), 1)
        both = with_row(with_row(ROWS, 9, "fold left 2 over").split("\n"), 4, "fold left 2 over")
        self.refused_at(both, 2)
        self.refused_at(with_row(with_row(ROWS, 8, "sheet 8 8").split("\n"), 3, "fold left 2 under"), 1)

    def test_schemes_that_no_part_has(self):
        self.refused_at("scheme a\nsheet 1 1\nscheme b\nsheet 1 2\npages 1\npart a behind", 1)
        self.refused_at("scheme b\nsheet 6 6\nscheme a\nsheet 1 1\npages 1\npart a behind", 0)

    def test_rows_are_ahead_of_schemes(self):
        bad = with_row(ROWS, 2, "sheet 8 8").split("\n")
        self.assertEqual(refused(self, with_row(bad, 13, "part a behin")), (13, 3))
        self.assertEqual(refused(self, "\n".join(bad[:10])), (11, 1))
        self.assertEqual(refused(self, "\n".join(bad) + "\n"), (14, 0))
        self.assertEqual(refused(self, with_row(bad, 9, "fold left 9 over")), (9, 3))

    def test_schemes_are_ahead_of_books(self):
        bad = with_row(ROWS, 10, "pages 2000").split("\n")
        self.assertRaises(BadBook, read_book, "\n".join(bad))
        self.refused_at(with_row(bad, 9, "fold left 2 over"), 1)
        self.refused_at(with_row(ROWS, 11, "part quarto within").replace("sheet 1 2", "sheet 1 3"), 2)

    def test_no_books(self):
        for at, row in ((10, "pages 15"), (10, "pages 2000"), (10, "pages 12"), (10, "pages 1"),
                        (11, "part quarto within"), (12, "part a within"), (13, "part a within"),
                        (11, "part a behind")):
            with self.assertRaises(BadBook, msg=row):
                read_book(with_row(ROWS, at, row))
        # This one is a book: its one nest has 16 places.
        self.assertEqual(read_book(with_row(ROWS, 13, "part folio within"))[1].many_places(), 16)


if __name__ == "__main__":
    unittest.main()
