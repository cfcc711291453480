"""From stage to stage: a book's text, its sheets, their texts, the folding machine, and the book that is read."""

import unittest

from foldpress.book import Book, creep_of, leaf_of, page_at, sheets_of, spreads_whole
from foldpress.booktext import book_text, read_book
from foldpress.cutting import bifolia, can_be_sewn
from foldpress.desk import Desk
from foldpress.hand import Hand
from foldpress.imposing import imposed, section_pages
from foldpress.machine import Machine
from foldpress.plan import book_for, plan_for
from foldpress.plates import doubled, halves_of, tumbled, tumbled_over, turned_over
from foldpress.readback import hindering, schemes_for
from foldpress.scheme import Scheme
from foldpress.schemetext import read_scheme, scheme_text
from foldpress.sheettext import read_sheet, sheet_text
from paper import many_schemes

SCHEMES = """scheme quarto
sheet 2 2
fold top 1 under
fold left 1 over
scheme octavo
sheet 2 4
fold right 2 under
fold bottom 1 over
fold left 1 over
scheme letter
sheet 1 3
fold left 1 over
fold right 1 under
scheme folio
sheet 1 2
fold left 1 over
scheme card
sheet 1 1
"""
TEXTS = (
    SCHEMES + "pages 1\npart card behind",
    SCHEMES + "pages 31\npart octavo behind\npart octavo behind",
    SCHEMES + "pages 55\npart octavo behind\npart quarto within\npart folio within\npart letter behind\n"
    "part card behind\npart octavo behind\npart folio within",
    SCHEMES + "pages 9\npart folio behind\npart octavo within\npart quarto within\npart folio within",
    SCHEMES + "pages 150\n" + "\n".join(["part folio behind"] + ["part folio within"] * 39),
    SCHEMES + "pages 600\n" + "\n".join(["part folio behind"] * 150),
)


def bound(book, sections):
    """The pages of the book's sections, put into one another and gathered."""
    read = []
    for nest in book.nest_parts():
        inside = []
        for part in nest[::-1]:
            middle = len(sections[part - 1]) // 2
            inside = sections[part - 1][:middle] + inside + sections[part - 1][middle:]
        read += inside
    return read


def folded_by_machine(scheme, sheet):
    """A machine that has done all folds."""
    machine = Machine(scheme, sheet)
    while machine.steps_left() > 0:
        machine.step()
    return machine


class TestBooks(unittest.TestCase):
    def test_page_behind_page_heads_up(self):
        for text in TEXTS:
            names, book = read_book(text)
            self.assertEqual(book_text(names, book), text)
            pages, parts = book.told()
            sections, sheets = [], sheets_of(book)
            for number, (scheme, _) in enumerate(parts, start=1):
                sheet = read_sheet(sheet_text(imposed(scheme, book.part_pages(number))))
                self.assertEqual(sheet.told(), sheets[number - 1].told())
                self.assertEqual(section_pages(read_scheme(scheme_text(scheme)), sheet), book.part_pages(number))
                sections.append(folded_by_machine(scheme, sheet).all_pages())
            expected = [(page if page <= pages else 0, False) for page in range(1, book.many_places() + 1)]
            self.assertEqual(bound(book, sections), expected)

    def test_each_spread_is_seen_in_the_machine(self):
        for text in TEXTS[:4]:
            pages, parts = read_book(text)[1].told()
            book = Book(pages, parts)
            machines = [folded_by_machine(scheme, sheet) for (scheme, _), sheet in zip(parts, sheets_of(book))]
            seen = []
            for machine in machines:
                for number in range(1, len(machine.all_pages()) // 2):
                    left, right = machine.open_at(number)
                    seen.append((left[0], right[0]))
            for pair in spreads_whole(book):
                self.assertIn(pair, seen)
                self.assertEqual(page_at(book, pair[0])[0], page_at(book, pair[1])[0])

    def test_sewn_leaves_lie_as_far_from_both_ends(self):
        for text in TEXTS:
            book = read_book(text)[1]
            creeps = creep_of(book, (1, 1))
            pages, parts = book.told()
            for number, (scheme, _) in enumerate(parts, start=1):
                if not can_be_sewn(scheme):
                    continue
                borne = book.part_pages(number)
                for one, other in bifolia(scheme):
                    upper, lower = borne[2 * one - 2], borne[2 * other - 1]
                    if upper and lower:
                        self.assertEqual(creeps[upper - 1], creeps[lower - 1])
                        self.assertEqual(leaf_of(book, upper)[0], leaf_of(book, lower)[0])

    def test_a_desk_and_a_hand_tell_the_same(self):
        for text in TEXTS:
            desk, hand = Desk(text), Hand(read_book(text)[1])
            pages, parts = hand.book().told()
            for page in (1, (pages + 1) // 2, pages):
                part, row, column, side, is_turned = page_at(hand.book(), page)
                self.assertEqual(desk.say(f"page {page}"), "part {} row {} column {} {} {}".format(
                    part, row, column, side, "foot" if is_turned else "head"))
            for number in (1, len(parts)):
                told = desk.say(f"sheet {number}").replace(" / ", "\n")
                self.assertEqual(read_sheet(told).told(), sheets_of(hand.book())[number - 1].told())


class TestSheets(unittest.TestCase):
    def test_a_book_of_one_sheet_is_read_back_to_its_scheme(self):
        for rows, columns, folds in many_schemes():
            if (rows, columns) not in ((1, 1), (1, 2), (2, 1), (1, 3), (2, 2), (1, 4)):
                continue
            scheme = Scheme(rows, columns, folds)
            sheet = sheets_of(Book(2 * rows * columns, [(scheme, "behind")]))[0]
            self.assertIn(scheme.told(), [one.told() for one in schemes_for(sheet)])
            self.assertIsNone(hindering(sheet))
            self.assertEqual(folded_by_machine(scheme, sheet).open_at(0), (None, (1, False)))

    def test_what_is_cut_from_a_plate_folds_to_the_book_again(self):
        scheme = Scheme(2, 2, [("top", 1, "under"), ("left", 1, "over")])
        sheet = imposed(scheme, [1, 2, 3, 4, 5, 6, 7, 0])
        expected = folded_by_machine(scheme, sheet).all_pages()
        left, right = halves_of(doubled(sheet), "upright")
        upper, lower = halves_of(tumbled(sheet), "level")
        for half in (left, turned_over(right), upper, tumbled_over(lower)):
            self.assertEqual(folded_by_machine(scheme, half).all_pages(), expected)

    def test_seen_from_beneath_is_seen_from_above_when_turned_over(self):
        for rows, columns, folds in many_schemes()[::7]:
            pages = list(range(1, 2 * rows * columns + 1))
            sheet = imposed(Scheme(rows, columns, folds), pages)
            exchanged = {"left": "right", "right": "left", "over": "under", "under": "over"}
            mirrored = [(exchanged.get(edge, edge), many, exchanged[way]) for edge, many, way in folds]
            one = Machine(Scheme(rows, columns, folds), sheet)
            other = Machine(Scheme(rows, columns, mirrored), turned_over(sheet))
            while one.steps_left() > 0:
                one.step()
                other.step()
                self.assertEqual(one.seen_above(), other.seen_beneath())
                self.assertEqual(one.seen_beneath(), other.seen_above())

    def test_the_book_of_a_plan(self):
        press = [scheme for _, scheme in read_book(TEXTS[0])[0]]
        for pages in (1, 2, 3, 16, 17, 30, 99):
            book = book_for(press, pages)
            self.assertEqual(len(book.told()[1]), sum(plan_for(press, pages)))
            sections = [folded_by_machine(scheme, sheet).all_pages()
                        for (scheme, _), sheet in zip(book.told()[1], sheets_of(book))]
            self.assertEqual([page for page, _ in bound(book, sections)][:pages], list(range(1, pages + 1)))


if __name__ == "__main__":
    unittest.main()
