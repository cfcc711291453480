"""Books [70] to [73]: nests, places, what parts bear, where pages stand, creep, whole spreads, and no books."""

import random
import unittest
from fractions import Fraction

from foldpress.book import Book, creep_of, leaf_of, page_at, sheets_of, spreads_whole
from foldpress.cutting import can_be_sewn
from foldpress.errors import BadBook, OutOfPlace
from foldpress.scheme import Scheme
from foldpress.section import page_places
from foldpress.sheet import Sheet
from paper import NO_NUMBERS, Alike, change_deeply, many_schemes, pages_read, seen_spreads, some_folds, told_parts

ONE = Scheme(1, 1, [])
FOLIO = Scheme(1, 2, [("left", 1, "over")])
# Pages 1 and 4 of the section on the front, whose pair hangs together at the right.
LOOSE = Scheme(1, 2, [("right", 1, "under")])
QUARTO = Scheme(2, 2, [("top", 1, "under"), ("left", 1, "over")])
LONG = Scheme(1, 4, [("left", 2, "over"), ("left", 1, "over")])
CROSS = Scheme(2, 2, [("left", 1, "over"), ("top", 1, "over")])
TRIPLE = Scheme(1, 3, [("left", 1, "over"), ("right", 1, "under")])
GREAT = Scheme(4, 8, [("left", 4, "over"), ("top", 2, "under"), ("bottom", 1, "over"), ("left", 2, "over"),
                      ("left", 1, "over")])
NO_HOWS = ("", "Behind", "behind ", "behin", "with", "in", "over", None, True, False, 0, 1, ["behind"], ("behind",),
           b"behind", {}, len, FOLIO, Alike())
NO_PARTS = (None, True, 0, 1, "", "behind", [], [FOLIO, "behind"], (), (FOLIO,), ("behind",), ("behind", FOLIO),
            (FOLIO, "behind", 1), (FOLIO, FOLIO), (FOLIO, "behind", "behind"), (FOLIO.told(), "behind"), FOLIO, {}, {1},
            ("sheet 1 1", "behind"), (None, "behind"), (Scheme, "behind"), b"", object(), len)


def behind(*schemes):
    return [(scheme, "behind") for scheme in schemes]


def nest(first, *others):
    return [(first, "behind")] + [(scheme, "within") for scheme in others]


def read_through(book):
    """The faces of a book that is folded and put together: each sheet by itself, then nest by nest from inside."""
    faces = []
    for sheet, (scheme, _) in zip(sheets_of(book), book.told()[1]):
        rows, columns, folds = scheme.told()
        front, back = sheet.told()
        faces.append(pages_read(rows, columns, folds, front, back))
    read = []
    for parts in book.nest_parts():
        inside = []
        for part in reversed(parts):
            middle = len(faces[part - 1]) // 2
            inside = faces[part - 1][:middle] + inside + faces[part - 1][middle:]
        read.append(inside)
    return read


def some_books():
    """Books of all kinds, each with its last nest begun by one page or more, picked alike each time."""
    picker = random.Random(70)
    pool = [Scheme(rows, columns, folds) for rows, columns, folds in many_schemes()[::7]]
    pool += [Scheme(4, 8, folds) for folds in some_folds(4, 8, 5)] + [GREAT]
    sewn = [scheme for scheme in pool if can_be_sewn(scheme)] + [FOLIO, QUARTO, LONG, GREAT]
    for _ in range(60):
        nests = []
        for _ in range(picker.randint(1, 5)):
            inner = [picker.choice(sewn) for _ in range(picker.randint(0, 4))]
            nests.append(nest(picker.choice(sewn if inner else pool), *inner))
        places = [sum(2 * scheme.told()[0] * scheme.told()[1] for scheme, _ in parts) for parts in nests]
        pages = picker.choice((sum(places), sum(places[:-1]) + 1, picker.randint(sum(places[:-1]) + 1, sum(places))))
        if pages <= 2000:
            yield Book(pages, [part for parts in nests for part in parts])


class TestForm(unittest.TestCase):
    def test_told(self):
        parts = nest(QUARTO, FOLIO) + behind(LOOSE)
        book = Book(14, parts)
        pages, told = book.told()
        self.assertEqual((pages, told_parts(told)), (14, told_parts(parts)))
        self.assertEqual([type(book.told()), type(told)] + [type(part) for part in told], [tuple, list] + [tuple] * 3)
        self.assertEqual({type(scheme) for scheme, _ in told}, {Scheme})

    def test_places_and_nests(self):
        for pages, parts, places, nests in (
                (1, behind(ONE), 2, [[1]]), (2, behind(ONE), 2, [[1]]), (3, behind(ONE, ONE), 4, [[1], [2]]),
                (4, behind(LOOSE), 4, [[1]]), (1, behind(GREAT), 64, [[1]]),
                (6, nest(FOLIO, FOLIO), 8, [[1, 2]]), (1, nest(FOLIO, QUARTO, LONG), 20, [[1, 2, 3]]),
                (15, behind(TRIPLE) + nest(FOLIO, FOLIO) + behind(CROSS), 22, [[1], [2, 3], [4]]),
                (24, nest(QUARTO, FOLIO) + nest(FOLIO, QUARTO), 24, [[1, 2], [3, 4]])):
            book = Book(pages, parts)
            self.assertEqual(book.many_places(), places)
            self.assertEqual(book.nest_parts(), nests)
            self.assertIs(type(book.many_places()), int)

    def test_as_many_parts_as_may_be(self):
        for parts, places in ((behind(ONE) * 1000, 2000), (nest(FOLIO, *[FOLIO] * 999), 4000),
                              (behind(*[ONE] * 900) + nest(FOLIO, *[QUARTO] * 99), 1800 + 4 + 792)):
            book = Book(2000, parts)
            self.assertEqual(book.many_places(), places)
            self.assertEqual(len(book.told()[1]), 1000)
            self.assertRaises(BadBook, Book, 2000, parts + [parts[-1]])

    def test_two_thousand_pages(self):
        parts = behind(*[GREAT] * 32)
        self.assertEqual(Book(2000, parts).many_places(), 2048)
        self.assertRaises(BadBook, Book, 2001, parts)


class TestWorkedOut(unittest.TestCase):
    def test_gathered(self):
        book = Book(11, behind(FOLIO, QUARTO))
        self.assertEqual(book.part_pages(1), [1, 2, 3, 4])
        self.assertEqual(book.part_pages(2), [5, 6, 7, 8, 9, 10, 11, 0])
        self.assertEqual([sheet.told() for sheet in sheets_of(book)],
                         [([[(2, False), (3, False)]], [[(4, False), (1, False)]]),
                          ([[(5, True), (0, False)], [(8, False), (9, False)]],
                           [[(11, True), (6, True)], [(10, False), (7, False)]])])
        self.assertEqual(spreads_whole(book), [(2, 3), (8, 9)])
        self.assertEqual([leaf_of(book, page) for page in range(1, 12)],
                         [(1, 1), (1, 1), (1, 2), (1, 2), (2, 1), (2, 1), (2, 2), (2, 2), (2, 3), (2, 3), (2, 4)])
        self.assertEqual(page_at(book, 1), (1, 1, 1, "back", False))
        self.assertEqual(page_at(book, 4), (1, 1, 2, "back", False))
        self.assertEqual(page_at(book, 5), (2, 1, 1, "front", True))
        self.assertEqual(page_at(book, 10), (2, 2, 2, "back", False))
        self.assertEqual(page_at(book, 11), (2, 1, 2, "back", True))

    def test_a_nest_of_three(self):
        book = Book(14, nest(FOLIO, QUARTO, FOLIO))
        self.assertEqual([book.part_pages(part) for part in (1, 2, 3)],
                         [[1, 2, 0, 0], [3, 4, 5, 6, 11, 12, 13, 14], [7, 8, 9, 10]])
        self.assertEqual([sheet.told() for sheet in sheets_of(book)],
                         [([[(2, False), (0, False)]], [[(0, False), (1, False)]]),
                          ([[(3, True), (14, True)], [(6, False), (11, False)]],
                           [[(13, True), (4, True)], [(12, False), (5, False)]]),
                          ([[(8, False), (9, False)]], [[(10, False), (7, False)]])])
        # Pages 6 and 11 stand side by side, too, but they are no pair.
        self.assertEqual(spreads_whole(book), [(8, 9)])
        self.assertEqual([leaf_of(book, page) for page in (1, 2, 3, 7, 8, 9, 14)],
                         [(1, 1), (1, 1), (1, 2), (1, 4), (1, 4), (1, 5), (1, 7)])
        self.assertEqual(page_at(book, 9), (3, 1, 2, "front", False))
        self.assertEqual(creep_of(book, (1, 2)),
                         [(0, 1), (0, 1), (1, 2), (1, 2), (1, 1), (1, 1), (3, 2), (3, 2), (3, 2), (3, 2), (1, 1),
                          (1, 1), (1, 2), (1, 2)])

    def test_a_nest_of_unlike_schemes(self):
        book = Book(16, nest(LONG, QUARTO))
        self.assertEqual(book.part_pages(1), [1, 2, 3, 4, 13, 14, 15, 16])
        self.assertEqual(book.part_pages(2), [5, 6, 7, 8, 9, 10, 11, 12])
        self.assertEqual(spreads_whole(book), [(8, 9)])
        self.assertEqual(spreads_whole(Book(16, behind(LONG, QUARTO))), [(4, 5), (12, 13)])

    def test_nests_one_behind_the_other(self):
        book = Book(17, nest(FOLIO, FOLIO) + behind(TRIPLE) + nest(FOLIO, FOLIO))
        self.assertEqual([book.part_pages(part) for part in range(1, 6)],
                         [[1, 2, 7, 8], [3, 4, 5, 6], [9, 10, 11, 12, 13, 14], [15, 16, 0, 0], [17, 0, 0, 0]])
        self.assertEqual([leaf_of(book, page) for page in (8, 9, 14, 15, 17)],
                         [(1, 4), (2, 1), (2, 3), (3, 1), (3, 2)])
        self.assertEqual(creep_of(book, (3, 1)),
                         [(0, 1)] * 2 + [(3, 1)] * 4 + [(0, 1)] * 2
                         + [(0, 1)] * 2 + [(3, 1)] * 2 + [(0, 1)] * 2 + [(0, 1)] * 2 + [(3, 1)])
        self.assertEqual(spreads_whole(book), [(4, 5), (10, 11)])

    def test_one_leaf(self):
        book = Book(1, behind(ONE))
        self.assertEqual(book.part_pages(1), [1, 0])
        self.assertEqual([sheet.told() for sheet in sheets_of(book)], [([[(1, False)]], [[(0, False)]])])
        self.assertEqual((page_at(book, 1), leaf_of(book, 1)), ((1, 1, 1, "front", False), (1, 1)))
        self.assertEqual((creep_of(book, (5, 7)), spreads_whole(book)), ([(0, 1)], []))


class TestManyBooks(unittest.TestCase):
    def test_folded_and_put_together_the_pages_follow_one_another(self):
        for book in some_books():
            pages = book.told()[0]
            read = [face for faces in read_through(book) for face in faces]
            self.assertEqual(len(read), book.many_places())
            self.assertEqual(read, [(place if place <= pages else 0, False) for place in range(1, len(read) + 1)])

    def test_where_each_page_stands(self):
        for book in some_books():
            pages, parts = book.told()
            where = {}
            for part, (scheme, _) in enumerate(parts, start=1):
                self.assertEqual(len(book.part_pages(part)), len(page_places(scheme)))
                for page, place in zip(book.part_pages(part), page_places(scheme)):
                    where.setdefault(page, []).append((part,) + place)
            for page in range(1, pages + 1):
                self.assertEqual([page_at(book, page)], where.pop(page))
            self.assertEqual(len(where.pop(0, [])), book.many_places() - pages)
            self.assertEqual(where, {})

    def test_leaves_and_creep(self):
        for book in some_books():
            pages = book.told()[0]
            leaves, creeps = [], []
            for number, faces in enumerate(read_through(book), start=1):
                many = len(faces) // 2
                for ahead in range(many):
                    leaves += [(number, ahead + 1)] * 2
                    creeps += [min(ahead, many - 1 - ahead)] * 2
            self.assertEqual([leaf_of(book, page) for page in range(1, pages + 1)], leaves[:pages])
            for top, bottom in ((0, 1), (0, 9), (1, 1), (1, 10), (6, 4), (12, 18), (7, 3), (10 ** 9, 1), (1, 10 ** 9),
                                (10 ** 9, 10 ** 9), (999999999, 10 ** 9), (0, 10 ** 9)):
                shifts = [Fraction(top, bottom) * many for many in creeps[:pages]]
                self.assertEqual(creep_of(book, (top, bottom)),
                                 [(shift.numerator, shift.denominator) for shift in shifts])

    def test_whole_spreads_are_seen_on_the_sheets(self):
        found = 0
        for book in some_books():
            seen = []
            for sheet in sheets_of(book):
                front, back = sheet.told()
                seen += [pair for pair in seen_spreads(front, back) if pair[0] > 0]
            self.assertEqual(spreads_whole(book), sorted(seen))
            found += len(seen)
        self.assertGreater(found, 100)

    def test_kinds_of_what_is_told(self):
        book = Book(11, nest(QUARTO, FOLIO))
        self.assertEqual({type(sheet) for sheet in sheets_of(book)}, {Sheet})
        self.assertEqual([type(thing) for thing in page_at(book, 3)], [int, int, int, str, bool])
        self.assertEqual([type(page_at(book, 3)), type(leaf_of(book, 3))], [tuple, tuple])
        self.assertEqual({type(page) for page in book.part_pages(1)}, {int})
        for pair in creep_of(book, (0, 4)) + creep_of(book, (2, 4)) + spreads_whole(book):
            self.assertEqual([type(pair)] + [type(number) for number in pair], [tuple, int, int])


class TestWholeSpreads(unittest.TestCase):
    def test_a_pair_whose_odd_page_is_blank_or_not_there(self):
        self.assertEqual(spreads_whole(Book(4, behind(FOLIO))), [(2, 3)])
        self.assertEqual(spreads_whole(Book(3, behind(FOLIO))), [(2, 3)])
        self.assertEqual(spreads_whole(Book(2, behind(FOLIO))), [])
        self.assertEqual(spreads_whole(Book(1, behind(FOLIO))), [])

    def test_a_pair_that_stands_on_two_sheets(self):
        # Page 2 stands at the left of page 7, and page 4 at the left of page 5: pages 2 and 3 are on unlike sheets.
        self.assertEqual(spreads_whole(Book(8, nest(FOLIO, FOLIO))), [(4, 5)])
        self.assertEqual(page_at(Book(8, nest(FOLIO, FOLIO)), 2), (1, 1, 1, "front", False))
        # Between like sheets pages 4 and 5 stand at places that would be neighbours on one.
        self.assertEqual(spreads_whole(Book(8, behind(LOOSE, LOOSE))), [])
        self.assertEqual([page_at(Book(8, behind(LOOSE, LOOSE)), page) for page in (4, 5)],
                         [(1, 1, 2, "front", False), (2, 1, 1, "front", False)])
        swapped = Scheme(1, 2, [("right", 1, "over")])
        self.assertEqual([page_at(Book(8, behind(swapped, LOOSE)), page) for page in (4, 5)],
                         [(1, 1, 1, "back", False), (2, 1, 1, "front", False)])

    def test_neighbours_on_two_sheets_are_no_pair(self):
        for one in some_folds(2, 2, 12) + [[("left", 1, "over"), ("top", 1, "under")]]:
            for other in some_folds(2, 2, 12):
                book = Book(16, behind(Scheme(2, 2, one), Scheme(2, 2, other)))
                self.assertNotIn((8, 9), spreads_whole(book))

    def test_read_the_other_way_round(self):
        # Pages 2 and 3 of this scheme are neighbours, but the even one is at the right.
        self.assertEqual(spreads_whole(Book(4, behind(Scheme(1, 2, [("right", 1, "over")])))), [])


class TestNoPlaces(unittest.TestCase):
    def test_no_parts(self):
        for many in (1, 2, 5):
            book = Book(4 * many, behind(*[FOLIO] * many))
            for thing in NO_NUMBERS + (0, -1, many + 1, many + 2, 10 ** 40, -10 ** 40):
                with self.assertRaises(OutOfPlace, msg=repr(thing)):
                    book.part_pages(thing)

    def test_no_pages(self):
        for pages in (13, 15, 16):
            book = Book(pages, behind(QUARTO, QUARTO))
            for thing in NO_NUMBERS + (0, -1, -2, pages + 1, 17, 10 ** 40, -10 ** 40):
                for ask in (page_at, leaf_of):
                    with self.assertRaises(OutOfPlace, msg=repr(thing)):
                        ask(book, thing)


class TestNoThickness(unittest.TestCase):
    def refused(self, thickness):
        with self.assertRaises(BadBook, msg=repr(thickness)):
            creep_of(Book(4, behind(FOLIO)), thickness)

    def test_of_anything(self):
        for thing in NO_NUMBERS + (0, 1, 1.0, (1, 2, 3), [1, 2], "12", "1/2", {1: 2, 2: 1}, {1, 2}, FOLIO):
            self.refused(thing)
        for thing in NO_NUMBERS + (1.0, -1, 10 ** 9 + 1, 10 ** 40, -10 ** 40):
            self.refused((thing, 1))
            self.refused((1, thing))
            self.refused((thing, thing))

    def test_bounds(self):
        self.refused((1, 0))
        self.refused((0, 0))
        self.refused((-1, 1))
        self.refused((1, -1))
        self.refused((10 ** 9 + 1, 1))
        self.refused((1, 10 ** 9 + 1))
        book = Book(4, behind(FOLIO))
        for thickness in ((0, 1), (10 ** 9, 10 ** 9)):
            self.assertEqual(creep_of(book, thickness), [(0, 1)] * 4)


class TestNoBooks(unittest.TestCase):
    def refused(self, pages, parts):
        with self.assertRaises(BadBook, msg=repr((pages, parts))):
            Book(pages, parts)

    def test_counts_of_pages(self):
        for thing in NO_NUMBERS + (0, -1, -2, 5, 2001, 10 ** 40, -10 ** 40, 1.0):
            self.refused(thing, behind(FOLIO))
        self.refused(2001, behind(*[GREAT] * 40))
        self.refused(0, behind(ONE))

    def test_places_that_lack(self):
        for parts, places in ((behind(ONE), 2), (behind(FOLIO), 4), (behind(TRIPLE, TRIPLE), 12),
                              (nest(QUARTO, FOLIO), 12), (behind(FOLIO) + nest(QUARTO, FOLIO, GREAT), 80)):
            self.assertEqual(Book(places, parts).many_places(), places)
            self.refused(places + 1, parts)
            self.refused(places + 2, parts)
            self.refused(2000, parts)

    def test_a_last_nest_without_a_page(self):
        for parts, ahead in ((behind(ONE, ONE), 2), (behind(FOLIO, QUARTO), 4),
                             (behind(QUARTO) + nest(FOLIO, FOLIO), 8),
                             (nest(FOLIO, FOLIO) + behind(GREAT), 8), (behind(FOLIO, TRIPLE, ONE), 10)):
            self.assertEqual(Book(ahead + 1, parts).told()[0], ahead + 1)
            for pages in (ahead, ahead - 1, 1):
                self.refused(pages, parts)
        # Within one nest it is enough that the outermost part has a page.
        self.assertEqual(Book(1, nest(FOLIO, QUARTO, FOLIO)).many_places(), 16)

    def test_no_list(self):
        for thing in (None, True, False, 0, 1, "", "behind", (), (FOLIO, "behind"), ((FOLIO, "behind"),), FOLIO, {},
                      {1: (FOLIO, "behind")}, {"behind": FOLIO}, b"", object(), len, Book(1, behind(ONE))):
            self.refused(1, thing)

    def test_an_empty_one(self):
        self.refused(1, [])
        self.refused(0, [])

    def test_more_than_a_thousand(self):
        self.refused(2000, behind(*[ONE] * 1001))
        self.refused(1, nest(*[FOLIO] * 1001))
        self.refused(2000, behind(*[ONE] * 900) + nest(*[FOLIO] * 101))
        self.refused(1, [None] * 1001)

    def test_no_part(self):
        for thing in NO_PARTS:
            self.refused(1, [thing])
            self.refused(5, [(FOLIO, "behind"), thing])
            self.refused(5, [thing, (FOLIO, "behind")])

    def test_no_way(self):
        for thing in NO_HOWS:
            self.refused(1, [(FOLIO, thing)])
            self.refused(5, [(FOLIO, "behind"), (FOLIO, thing)])

    def test_the_first_part_within(self):
        self.refused(1, [(FOLIO, "within")])
        self.refused(1, [(FOLIO, "within"), (FOLIO, "within")])
        self.refused(5, [(FOLIO, "within"), (FOLIO, "behind")])

    def test_parts_of_a_nest_that_cant_be_sewn(self):
        accordion = Scheme(1, 4, [("left", 1, "over"), ("left", 1, "under"), ("left", 1, "over")])
        for bad in (ONE, LOOSE, TRIPLE, CROSS, accordion, Scheme(2, 1, [("top", 1, "over")])):
            self.assertEqual(Book(1, behind(bad)).nest_parts(), [[1]])
            self.refused(1, nest(bad, FOLIO))
            self.refused(1, nest(FOLIO, bad))
            self.refused(1, nest(bad, bad))
            self.refused(1, nest(FOLIO, QUARTO, bad))
            self.refused(1, nest(FOLIO, bad, QUARTO))
            self.refused(5, behind(FOLIO) + nest(FOLIO, bad))
            places = 2 * bad.told()[0] * bad.told()[1]
            self.refused(1 + places, behind(bad) + nest(bad, FOLIO))
            self.assertEqual(Book(1 + places, behind(bad) + nest(FOLIO, FOLIO)).nest_parts(), [[1], [2, 3]])


class TestOwn(unittest.TestCase):
    def test_handed_lists_stay_and_are_not_kept(self):
        parts = nest(QUARTO, FOLIO) + behind(LOOSE)
        expected = told_parts(parts)
        book = Book(14, parts)
        self.assertEqual(told_parts(parts), expected)
        parts.reverse()
        parts.append("changed")
        parts[0] = (GREAT, "within")
        self.assertEqual(told_parts(book.told()[1]), expected)
        self.assertEqual(book.nest_parts(), [[1, 2], [3]])
        self.assertEqual([book.part_pages(part) for part in (1, 2, 3)],
                         [[1, 2, 3, 4, 9, 10, 11, 12], [5, 6, 7, 8], [13, 14, 0, 0]])

    def test_what_is_told_is_the_askers_own(self):
        book = Book(14, nest(QUARTO, FOLIO) + behind(LOOSE))
        asks = (lambda: (book.told()[0], told_parts(book.told()[1])), book.nest_parts, lambda: book.part_pages(2),
                lambda: [sheet.told() for sheet in sheets_of(book)], lambda: creep_of(book, (1, 3)),
                lambda: spreads_whole(book), book.many_places, lambda: [page_at(book, page) for page in range(1, 15)],
                lambda: [leaf_of(book, page) for page in range(1, 15)])
        expected = [repr(ask()) for ask in asks]
        for told in [book.told(), sheets_of(book)] + [ask() for ask in asks]:
            change_deeply(told)
        for scheme, _ in book.told()[1]:
            change_deeply(scheme.told())
        for sheet in sheets_of(book):
            change_deeply(sheet.told())
        self.assertEqual([repr(ask()) for ask in asks], expected)

    def test_no_scheme_that_is_handed_in_is_kept(self):
        scheme = Scheme(1, 2, [("left", 1, "over")])
        book = Book(3, behind(scheme))
        scheme.__init__(1, 2, [("right", 1, "over")])
        book.told()[1][0][0].__init__(1, 1, [])
        self.assertEqual(told_parts(book.told()[1]), [((1, 2, [("left", 1, "over")]), "behind")])
        self.assertEqual(page_at(book, 1), (1, 1, 1, "back", False))

    def test_refusals_change_nothing(self):
        book = Book(3, behind(FOLIO))
        for ask in (lambda: book.part_pages(2), lambda: page_at(book, 4), lambda: creep_of(book, (1, 0))):
            self.assertRaises(ValueError, ask)
        self.assertEqual((book.told()[0], book.part_pages(1)), (3, [1, 2, 3, 0]))


if __name__ == "__main__":
    unittest.main()
