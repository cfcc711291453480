"""A desk [102]: each kind of line with its answer, what is refused, what is no line, and texts that are refused."""

import random
import unittest

from foldpress.book import creep_of, page_at, sheets_of, spreads_whole
from foldpress.booktext import read_book
from foldpress.cutting import can_be_sewn, closed_edges, groups_after
from foldpress.desk import Desk
from foldpress.errors import BadBook, BadRow, BadScheme, PressError
from foldpress.hand import Hand
from foldpress.plan import plan_for
from foldpress.sheettext import sheet_text
from paper import EDGES, NO_TEXTS, Alike, row_refused

TEXT = """scheme quarto
sheet 2 2
fold top 1 under
fold left 1 over
scheme a
sheet 1 1
scheme folio
sheet 1 2
fold left 1 over
pages 13
part quarto behind
part folio within
part a behind"""
# Lines that change nothing, with their answers: worked out by hand.
ASKED = (
    ("pages", "13"), ("parts", "3"),
    ("page 1", "part 1 row 1 column 1 front foot"), ("page 2", "part 1 row 1 column 1 back foot"),
    ("page 3", "part 1 row 2 column 1 back head"), ("page 4", "part 1 row 2 column 1 front head"),
    ("page 5", "part 2 row 1 column 1 back head"), ("page 7", "part 2 row 1 column 2 front head"),
    ("page 9", "part 1 row 2 column 2 front head"), ("page 11", "part 1 row 1 column 2 back foot"),
    ("page 12", "part 1 row 1 column 2 front foot"), ("page 13", "part 3 row 1 column 1 front head"),
    ("sheet 1", "1' 12' / 4 9 / back / 11' 2' / 10 3"), ("sheet 2", "6 7 / back / 8 5"), ("sheet 3", "13 / back / ."),
    ("whole", "6-7"),
    ("creep 1", "0/1"), ("creep 2", "0/1"), ("creep 3", "1/10"), ("creep 5", "1/5"), ("creep 6", "1/5"),
    ("creep 7", "1/5"), ("creep 8", "1/5"), ("creep 10", "1/10"), ("creep 12", "0/1"), ("creep 13", "0/1"),
    ("plan 1", "0 1 0"), ("plan 3", "0 0 1"), ("plan 10", "1 1 0"), ("plan 12", "1 0 1"), ("plan 13", "2 0 0"),
    ("plan 2000", "250 0 0"),
    ("sewn quarto", "yes"), ("sewn a", "no"), ("sewn folio", "yes"),
    ("closed quarto", "left top"), ("closed a", "none"), ("closed folio", "left"),
    ("cut quarto", "1"), ("cut quarto left", "2"), ("cut quarto top", "2"), ("cut quarto left top", "4"),
    ("cut quarto top left top", "4"), ("cut quarto right bottom", "1"), ("cut a", "1"),
    ("cut a left right top bottom", "1"),
    ("cut folio left left left left left left", "2"),
)
REFUSED = (
    "page 0", "page 14", "page 9999", "sheet 0", "sheet 4", "sheet 9999", "creep 0", "creep 14", "creep 9999", "plan 0",
    "plan 2001", "plan 9999", "cut quarto x", "cut quarto Left", "cut a left over", "cut quarto left top lef",
    "cut folio folio", "cut folio 1", "cut folio within", "set 0", "set 12", "set 15", "set 2000", "set 2001",
    "set 9999",
    "change 0 folio behind", "change 4 folio behind", "change 9999 a within", "change 1 folio within",
    "change 2 a within", "change 1 a behind", "change 2 quarto within", "put 0 folio behind", "put 5 folio behind",
    "put 4 folio behind", "put 4 a within", "put 1 folio within", "put 1 a behind", "take 0", "take 4", "take 1",
    "take 2", "take 3", "undo",
)
NO_LINES = (
    # Other words.
    "", "x", "Pages", "page", "hello there", "pagess 1", "PAGE 1", "sew quarto", "none", "scheme quarto",
    "part a behind",
    "1", "13", ".", "'", "redo", "quarto", "sheets 1", "takes 1", "wholes", "refused", "undo undo undo",
    # Other counts of them.
    "pages 1", "parts 1", "parts x", "page 1 2", "sheet", "sheet 1 2", "whole 1", "creep", "creep 1 2", "plan",
    "plan 1 2", "plan quarto", "sewn", "sewn quarto quarto", "sewn quarto folio", "closed", "closed quarto left", "cut",
    "set", "set 1 2", "change", "change 1", "change 1 folio", "change 1 folio behind behind", "put", "put 1",
    "put 1 folio", "put 1 folio behind 1", "take", "take 1 2", "undo 1", "undo undo",
    # Names that aren't there.
    "sewn b", "sewn Quarto", "sewn 1", "sewn quart", "sewn quartos", "closed b", "closed left", "cut b", "cut b left",
    "cut left", "cut b x", "change 1 b behind", "change 1 behind folio", "put 1 b behind", "put 1 behind folio",
    "change 9999 b behind", "cut abcdefghi",
    # A way that is none.
    "change 1 folio over", "change 1 folio Behind", "change 1 folio with", "change 1 folio 1", "put 1 folio over",
    "put 1 folio behin", "put 9999 folio x", "change 0 folio folio",
    # No numbers.
    "page x", "page 01", "page 00", "page 0001", "page 10000", "page -1", "page +1", "page 1.", "page 1a", "page 12345",
    "page one", "sheet 01", "sheet x", "creep 00", "creep x", "plan 02000", "plan x", "plan 20000", "set 01", "set x",
    "set 13.", "set -13", "change 01 folio behind", "change x folio behind", "put 00 folio behind",
    "put x folio behind",
    "take 01", "take x", "take 10000", "take -1", "page 1'", "page 1,",
    # Blanks.
    " ", "  ", " pages", "pages ", "page  1", "page 1 ", " page 1", "cut quarto ", "cut  quarto", "cut quarto  left",
    "cut quarto left ", "undo ", " undo", "set 14 ", "set  14", "change 1  folio behind",
    # Line feeds.
    "\n", "pages\n", "\npages", "page 1\n", "page\n1", "page \n1", "cut quarto left\n", "cut quarto\nleft",
    "cut quarto lef\nt", "cut quarto \n", "cut quarto left\ntop", "pages\nparts", "undo\n", "set 14\n", "set\n14",
    "sewn a\n",
    "take 3\n", "change 1 folio behind\n", "cut quarto x\n",
)


def answers(desk):
    """What the desk says of all lines that change nothing."""
    return [desk.say(line) for line, _ in ASKED]


class TestAsked(unittest.TestCase):
    def test_worked_out(self):
        desk = Desk(TEXT)
        for line, answer in ASKED + ASKED[::-1]:
            self.assertEqual(desk.say(line), answer, line)
            self.assertIs(type(desk.say(line)), str)

    def test_none(self):
        desk = Desk("scheme a\nsheet 1 1\npages 2\npart a behind")
        for line, answer in (("whole", "none"), ("closed a", "none"), ("set 2", "none"), ("set 1", "1"),
                             ("whole", "none"), ("change 1 a behind", "none"), ("undo", "none"), ("plan 7", "4"),
                             ("creep 1", "0/1"),
                             ("sheet 1", "1 / back / ."), ("sewn a", "no")):
            self.assertEqual(desk.say(line), answer, line)

    def test_whole_spreads_with_blanks_between(self):
        desk = Desk("scheme folio\nsheet 1 2\nfold left 1 over\npages 11\n" + "\n".join(["part folio behind"] * 3))
        self.assertEqual(desk.say("whole"), "2-3 6-7 10-11")

    def test_names_that_are_words_of_lines(self):
        desk = Desk("scheme undo\nsheet 1 1\nscheme behind\nsheet 1 2\nfold left 1 over\npages 5\n"
                    "part behind behind\npart undo behind")
        for line, answer in (("sewn undo", "no"), ("sewn behind", "yes"), ("undo", "refused"), ("cut behind left", "2"),
                             ("change 2 behind behind", "2"), ("change 1 within behind", "no line"), ("undo", "2"),
                             ("plan 5", "1 1")):
            self.assertEqual(desk.say(line), answer, line)

    def test_like_schemes_by_several_names(self):
        desk = Desk("scheme b\nsheet 1 1\nscheme a\nsheet 1 1\nscheme c\nsheet 1 2\nfold left 1 over\n"
                    "pages 1\npart a behind")
        for line, answer in (("plan 6", "1 0 1"), ("plan 2", "1 0 0"), ("change 1 b behind", "none"),
                             ("change 1 c behind", "1"), ("plan 2000", "0 0 500")):
            self.assertEqual(desk.say(line), answer, line)

    def test_a_shift_of_many_leaves(self):
        text = "\n".join(["scheme folio", "sheet 1 2", "fold left 1 over", "pages 90", "part folio behind"]
                         + ["part folio within"] * 22)
        desk = Desk(text)
        for line, answer in (("creep 1", "0/1"), ("creep 3", "1/10"), ("creep 9", "2/5"), ("creep 11", "1/2"),
                             ("creep 21", "1/1"), ("creep 23", "11/10"), ("creep 31", "3/2"), ("creep 41", "2/1"),
                             ("creep 45", "11/5"), ("creep 48", "11/5"), ("creep 90", "1/10"), ("creep 91", "refused")):
            self.assertEqual(desk.say(line), answer, line)


class TestDeeds(unittest.TestCase):
    def test_worked_out(self):
        desk = Desk(TEXT)
        for line, answer in (
                ("set 14", "3"), ("pages", "14"), ("sheet 3", "13 / back / 14"), ("set 14", "none"), ("set 13", "3"),
                ("change 2 folio behind", "1 2"), ("whole", "4-5 10-11"), ("creep 5", "1/10"),
                ("page 9", "part 2 row 1 column 1 back head"), ("undo", "1 2"), ("whole", "6-7"),
                ("change 3 folio behind", "3"), ("put 3 a behind", "refused"), ("set 15", "3"),
                ("put 3 a behind", "3 4"), ("parts", "4"), ("sheet 4", ". . / back / . 15"), ("take 3", "3"),
                ("parts", "3"), ("undo", "3 4"),
                ("undo", "3"), ("undo", "3"), ("undo", "3"), ("pages", "13"), ("parts", "3"),
                ("undo", "3"), ("pages", "14"), ("undo", "none"), ("undo", "3"), ("pages", "13"),
                ("undo", "refused"), ("undo", "refused")):
            self.assertEqual(desk.say(line), answer, line)
        self.assertEqual(answers(desk), [answer for _, answer in ASKED])

    def test_behind_all(self):
        desk = Desk("scheme folio\nsheet 1 2\nfold left 1 over\npages 2\npart folio behind")
        for line, answer in (("put 2 folio within", "2"), ("put 4 folio within", "refused"),
                             ("put 3 folio within", "3"), ("parts", "3"), ("take 2", "none"), ("undo", "2"),
                             ("set 12", "1 2 3"), ("undo", "1 2 3"),
                             ("undo", "none"), ("undo", "none"), ("undo", "refused"), ("parts", "1")):
            self.assertEqual(desk.say(line), answer, line)

    def test_two_desks_are_apart(self):
        one, other = Desk(TEXT), Desk(TEXT)
        self.assertEqual(one.say("set 14"), "3")
        self.assertEqual([other.say("pages"), other.say("undo"), one.say("pages")], ["13", "refused", "14"])


class TestRefused(unittest.TestCase):
    def test_refused(self):
        desk = Desk(TEXT)
        for line in REFUSED:
            self.assertEqual(desk.say(line), "refused", line)
            self.assertEqual(desk.say("undo"), "refused", line)
        self.assertEqual(answers(desk), [answer for _, answer in ASKED])

    def test_no_lines(self):
        desk = Desk(TEXT)
        for line in NO_LINES:
            self.assertEqual(desk.say(line), "no line", repr(line))
            self.assertEqual(desk.say("undo"), "refused", repr(line))
        self.assertEqual(answers(desk), [answer for _, answer in ASKED])

    def test_of_anything(self):
        desk = Desk(TEXT)
        for thing in (None, True, False, 0, 1, 13, 1.0, [], ["pages"], ["page", "1"], (), ("pages",), {}, {"pages": 1},
                      {"pages"}, b"pages", b"page 1", object(), len, desk, Alike()):
            self.assertEqual(desk.say(thing), "no line", repr(thing))
        self.assertEqual(answers(desk), [answer for _, answer in ASKED])

    def test_they_take_nothing_back(self):
        desk = Desk(TEXT)
        self.assertEqual(desk.say("set 14"), "3")
        for line in NO_LINES + ("page 15", "sheet 9", "change 4 folio behind", "take 1", "set 2000", "put 1 a within"):
            self.assertIn(desk.say(line), ("no line", "refused"))
        self.assertEqual([desk.say(line) for line in ("pages", "undo", "pages", "undo")], ["14", "3", "13", "refused"])


class TestTexts(unittest.TestCase):
    def test_refused_as_texts_of_books_are(self):
        for thing in NO_TEXTS:
            self.assertEqual(row_refused(self, Desk, thing), (1, 0))
        for text, place in (("", (1, 0)), (TEXT + "\n", (14, 0)), (TEXT + "\npart b behind", (14, 2)),
                            ("scheme a", (2, 1)), (TEXT.replace("pages 13", "pages 0"), (10, 2)),
                            (TEXT.replace("scheme a", "scheme quarto"), (5, 2))):
            self.assertEqual(row_refused(self, Desk, text), place)
        self.assertRaises(BadRow, Desk, b"scheme a")
        with self.assertRaises(BadScheme) as caught:
            Desk(TEXT.replace("fold top 1 under\n", ""))
        self.assertEqual(caught.exception.at, 2)
        for text in (TEXT.replace("pages 13", "pages 15"), TEXT.replace("pages 13", "pages 12"),
                     TEXT.replace("part folio within", "part a within")):
            self.assertRaises(BadBook, Desk, text)


class TestManyLines(unittest.TestCase):
    """A desk says what the functions tell that it stands for."""

    def deed(self, picker, hand, schemes):
        """A line, and what the hand does by it."""
        name, how = picker.choice(list(schemes)), picker.choice(("behind", "within"))
        number = picker.randint(0, 5)
        return picker.choice((
            (f"set {number * 5}", lambda: hand.set_pages(number * 5)),
            (f"change {number} {name} {how}", lambda: hand.change_part(number, schemes[name], how)),
            (f"put {number} {name} {how}", lambda: hand.put_part(number, schemes[name], how)),
            (f"take {number}", lambda: hand.take_part(number)), ("undo", hand.undo)))

    def asked(self, desk, book, schemes):
        """Asks the desk all that can be asked of a book."""
        pages, parts = book.told()
        self.assertEqual([desk.say("pages"), desk.say("parts")], [str(pages), str(len(parts))])
        for page in range(1, pages + 1):
            part, row, column, side, is_turned = page_at(book, page)
            head = "foot" if is_turned else "head"
            self.assertEqual(desk.say(f"page {page}"), f"part {part} row {row} column {column} {side} {head}")
            top, bottom = creep_of(book, (1, 10))[page - 1]
            self.assertEqual(desk.say(f"creep {page}"), f"{top}/{bottom}")
        for part, sheet in enumerate(sheets_of(book), start=1):
            self.assertEqual(desk.say(f"sheet {part}"), sheet_text(sheet).replace("\n", " / "))
        spreads = " ".join(f"{even}-{odd}" for even, odd in spreads_whole(book)) or "none"
        self.assertEqual(desk.say("whole"), spreads)
        self.assertEqual(desk.say(f"plan {pages}"), " ".join(map(str, plan_for(list(schemes.values()), pages))))
        for line in (f"page {pages + 1}", f"creep {pages + 1}", f"sheet {len(parts) + 1}"):
            self.assertEqual(desk.say(line), "refused")

    def test_many_lines(self):
        done = 0
        for seed in range(30):
            picker = random.Random(seed)
            names, book = read_book(TEXT)
            desk, hand, schemes = Desk(TEXT), Hand(book), dict(names)
            for _ in range(30):
                line, deed = self.deed(picker, hand, schemes)
                try:
                    expected = " ".join(map(str, deed())) or "none"
                    done += 1
                except PressError:
                    expected = "refused"
                self.assertEqual(desk.say(line), expected, line)
            self.asked(desk, hand.book(), schemes)
        self.assertGreater(done, 100)

    def test_schemes(self):
        schemes = dict(read_book(TEXT)[0])
        desk = Desk(TEXT)
        for name, scheme in schemes.items():
            self.assertEqual(desk.say(f"sewn {name}"), "yes" if can_be_sewn(scheme) else "no")
            self.assertEqual(desk.say(f"closed {name}"), " ".join(closed_edges(scheme)) or "none")
            for bits in range(16):
                cuts = [edge for at, edge in enumerate(EDGES) if bits >> at & 1]
                self.assertEqual(desk.say(" ".join(["cut", name] + cuts)), str(len(groups_after(scheme, cuts))))


if __name__ == "__main__":
    unittest.main()
