"""Plans [80] [81]: how many sheets of each scheme of a press, the book of a plan, and its gaps."""

import itertools
import random
import time
import unittest

from foldpress.book import Book
from foldpress.errors import BadBook
from foldpress.plan import book_for, gaps_shown, plan_for
from foldpress.scheme import Scheme
from paper import NO_NUMBERS, change_deeply, some_folds, told_parts

ONE = Scheme(1, 1, [])
FOLIO = Scheme(1, 2, [("left", 1, "over")])
TALL = Scheme(2, 1, [("top", 1, "over")])
TRIPLE = Scheme(1, 3, [("left", 1, "over"), ("right", 1, "under")])
QUARTO = Scheme(2, 2, [("top", 1, "under"), ("left", 1, "over")])
LONG = Scheme(1, 4, [("left", 2, "over"), ("left", 1, "over")])
# A scheme for each count of cells that a test takes.
SIZES = {1: (1, 1), 2: (1, 2), 3: (1, 3), 4: (2, 2), 5: (1, 5), 6: (2, 3), 7: (7, 1), 8: (2, 4), 9: (3, 3), 12: (3, 4),
         15: (3, 5), 16: (4, 4), 24: (4, 6), 30: (5, 6), 32: (4, 8)}
NO_PRESSES = (None, True, False, 0, 1, "", "press", (), (FOLIO,), {}, {1: FOLIO}, b"", object(), len, FOLIO, [],
              [None], [FOLIO, None], [None, FOLIO], [FOLIO.told()], [(FOLIO, "behind")], ["sheet 1 1"], [Scheme],
              [FOLIO, 1], [[FOLIO]], [FOLIO] * 9, [ONE] * 9, [FOLIO] * 100, Book(1, [(ONE, "behind")]))


def press_of(*cells):
    return [Scheme(*SIZES[many], some_folds(*SIZES[many], 1)[0]) for many in cells]


def places_of(cells, plan):
    return sum(2 * size * many for size, many in zip(cells, plan))


def best_plan(cells, pages):
    """The best of all lists of numbers that are enough; none needs more sheets of a scheme than it does alone."""
    ranges = [range((pages + 2 * size - 1) // (2 * size) + 1) for size in cells]
    enough = [list(plan) for plan in itertools.product(*ranges) if places_of(cells, plan) >= pages]
    return min(enough, key=lambda plan: (sum(plan), places_of(cells, plan), plan[::-1]))


def gaps_by_lists(cells, pages, plan):
    """The gaps, by all lists of as many sheets."""
    many = sum(plan)
    totals = {places_of(cells, other) for other in itertools.product(range(many + 1), repeat=len(cells))
              if sum(other) == many}
    return [(number, max([total for total in totals if total < number], default=None))
            for number in range(pages, places_of(cells, plan))]


class TestWorkedOut(unittest.TestCase):
    def test_plans_and_gaps(self):
        for press, pages, plan, gaps in (
                ([ONE], 1, [1], [(1, None)]), ([ONE], 2, [1], []), ([ONE], 3, [2], [(3, None)]),
                ([FOLIO], 1, [1], [(1, None), (2, None), (3, None)]), ([FOLIO], 4, [1], []),
                ([FOLIO], 5, [2], [(5, None), (6, None), (7, None)]),
                ([QUARTO, FOLIO], 10, [1, 1], [(10, 8), (11, 8)]), ([FOLIO, QUARTO], 10, [1, 1], [(10, 8), (11, 8)]),
                ([QUARTO, FOLIO], 12, [1, 1], []), ([QUARTO, FOLIO], 13, [2, 0], [(13, 12), (14, 12), (15, 12)]),
                ([QUARTO, FOLIO], 3, [0, 1], [(3, None)]), ([QUARTO, FOLIO], 5, [1, 0], [(5, 4), (6, 4), (7, 4)]),
                # Three and one, or two and two: the last number is to be the least.
                ([ONE, FOLIO, TRIPLE], 8, [0, 2, 0], []), ([ONE, FOLIO, TRIPLE], 7, [0, 2, 0], [(7, 6)]),
                ([TRIPLE, FOLIO, ONE], 8, [0, 2, 0], []), ([FOLIO, ONE, TRIPLE], 8, [2, 0, 0], []),
                ([ONE, TRIPLE, FOLIO], 8, [1, 1, 0], []), ([TRIPLE, ONE, FOLIO], 7, [1, 1, 0], [(7, 6)]),
                # Like schemes, and unlike ones of as many cells: those that stand earlier.
                ([FOLIO, FOLIO], 8, [2, 0], []),
                ([FOLIO, TALL, FOLIO], 9, [3, 0, 0], [(9, None), (10, None), (11, None)]),
                ([QUARTO, LONG, FOLIO, TALL], 20, [2, 0, 1, 0], []),
                ([FOLIO] * 8, 2000, [500] + [0] * 7, []), ([ONE] * 8, 1999, [1000] + [0] * 7, [(1999, None)])):
            self.assertEqual(plan_for(press, pages), plan)
            self.assertEqual(gaps_shown(press, pages), gaps)

    def test_the_book_of_a_plan(self):
        for press, pages, parts in (
                ([FOLIO, QUARTO], 10, [QUARTO, FOLIO]), ([QUARTO, FOLIO], 10, [QUARTO, FOLIO]),
                ([ONE, FOLIO, TRIPLE], 8, [FOLIO, FOLIO]), ([TRIPLE, ONE, FOLIO], 7, [TRIPLE, ONE]),
                ([ONE, TRIPLE, FOLIO], 7, [TRIPLE, ONE]), ([FOLIO], 9, [FOLIO] * 3), ([ONE], 1, [ONE]),
                ([FOLIO, LONG, QUARTO], 20, [LONG, LONG, FOLIO])):
            book = book_for(press, pages)
            self.assertIs(type(book), Book)
            told, told_book_parts = book.told()
            self.assertEqual((told, told_parts(told_book_parts)), (pages, [(part.told(), "behind") for part in parts]))

    def test_kinds_of_what_is_told(self):
        plan = plan_for([QUARTO, FOLIO], 10)
        self.assertEqual([type(plan)] + [type(many) for many in plan], [list, int, int])
        gaps = gaps_shown([QUARTO, FOLIO], 10)
        self.assertEqual([type(gaps)] + [type(gap) for gap in gaps], [list, tuple, tuple])
        self.assertEqual({type(number) for gap in gaps for number in gap}, {int})


class TestAllLists(unittest.TestCase):
    def test_each_plan_is_the_best_of_all_lists(self):
        for cells, most in (((1,), 40), ((2,), 40), ((3, 2), 60), ((2, 3), 60), ((4, 4), 40), ((1, 1), 14),
                            ((5, 3), 60),
                            ((2, 2, 2), 24), ((1, 2, 3), 20), ((3, 1, 2), 20), ((6, 4, 3), 60), ((4, 6, 6), 60),
                            ((5, 7, 3, 4), 40), ((8, 5, 5, 2), 40), ((3, 5, 3, 5), 30), ((9, 6, 4, 5), 50),
                            ((7, 7, 6, 5, 8), 36), ((32, 15, 12), 300), ((16, 9, 24), 200)):
            press = press_of(*cells)
            for pages in range(1, most + 1):
                plan = best_plan(cells, pages)
                self.assertEqual(plan_for(press, pages), plan, (cells, pages))

    def test_gaps_and_books(self):
        for cells, most in (((1,), 20), ((3, 2), 30), ((2, 3), 30), ((4, 4), 30), ((6, 4, 3), 40), ((9, 8, 5), 60),
                            ((8, 5, 5, 2), 40), ((1, 8), 60), ((7, 1, 3), 40), ((32, 5), 300), ((12, 30, 16), 200)):
            press = press_of(*cells)
            for pages in range(1, most + 1):
                plan = plan_for(press, pages)
                self.assertEqual(gaps_shown(press, pages), gaps_by_lists(cells, pages, plan), (cells, pages))
                told, parts = book_for(press, pages).told()
                expected = [(-size, at) for at, (size, many) in enumerate(zip(cells, plan)) for _ in range(many)]
                self.assertEqual(told, pages)
                self.assertEqual(told_parts(parts), [(press[at].told(), "behind") for _, at in sorted(expected)])


class TestGreatPresses(unittest.TestCase):
    def test_two_thousand_pages_come_to_an_end_soon(self):
        begun = time.monotonic()
        picker = random.Random(80)
        choices = list(SIZES)
        presses = [[1] * 8, [2] * 8, [32] * 8, [1, 2, 3, 4, 5, 6, 7, 8], [32, 30, 24, 16, 15, 12, 9, 8],
                   [1, 32, 1, 32, 1, 32, 1, 32], [3, 2, 3, 2, 3, 2, 3, 2], [1, 2, 1, 2, 1, 2, 1, 2],
                   [7, 5, 7, 5, 7, 5, 7, 5]]
        presses += [[picker.choice(choices) for _ in range(8)] for _ in range(20)]
        for cells in presses:
            press = press_of(*cells)
            for pages in (2000, 1999, 1987):
                plan = plan_for(press, pages)
                places = places_of(cells, plan)
                self.assertEqual(sum(plan), (pages + 2 * max(cells) - 1) // (2 * max(cells)))
                self.assertGreaterEqual(places, pages)
                self.assertEqual([number for number, _ in gaps_shown(press, pages)], list(range(pages, places)))
                self.assertEqual(book_for(press, pages).many_places(), places)
        self.assertLess(time.monotonic() - begun, 60)

    def test_worked_out(self):
        # 1,000 leaves are 24 less than 32 times 32: 12 times 30 for 32, or 8 for one 32.
        self.assertEqual(plan_for(press_of(32, 30, 24, 16, 15, 12, 9, 8), 2000), [20, 12, 0, 0, 0, 0, 0, 0])
        self.assertEqual(plan_for(press_of(8, 9, 12, 15, 16, 24, 30, 32), 2000), [0, 0, 0, 0, 0, 0, 12, 20])
        self.assertEqual(plan_for(press_of(32, 8), 2000), [31, 1])
        # They are 16 and 24 for two, or 24 for three; the number of the 24s is to be the least.
        self.assertEqual(plan_for(press_of(32, 16, 24, 7), 2000), [30, 1, 1, 0])
        self.assertEqual(plan_for(press_of(32, 24, 16, 7), 2000), [29, 3, 0, 0])
        self.assertEqual(gaps_shown(press_of(32, 7), 2000),
                         [(number, 1998) for number in range(2000, 2048)])
        # 200 sheets of 5 leaves; nothing but these, so that nothing lies below.
        self.assertEqual(gaps_shown(press_of(5, 5), 1995), [(number, None) for number in range(1995, 2000)])


class TestRefused(unittest.TestCase):
    def refused(self, press, pages):
        for ask in (plan_for, book_for, gaps_shown):
            with self.assertRaises(BadBook, msg=repr((press, pages))):
                ask(press, pages)

    def test_no_press(self):
        for thing in NO_PRESSES:
            self.refused(thing, 1)
            self.refused(thing, 8)
            self.refused(thing, None)

    def test_no_count_of_pages(self):
        for thing in NO_NUMBERS + (0, -1, 2001, 10 ** 40, -10 ** 40, 1.0, FOLIO, [FOLIO]):
            self.refused([FOLIO], thing)
            self.refused([ONE] * 8, thing)

    def test_presses_of_one_and_of_eight(self):
        self.assertEqual(plan_for([FOLIO], 2000), [500])
        self.assertEqual(plan_for([FOLIO] * 7 + [QUARTO], 2000), [0] * 7 + [250])


class TestOwn(unittest.TestCase):
    def test_handed_lists_stay_and_are_not_kept(self):
        press = [FOLIO, ONE, QUARTO]
        asks = (plan_for, book_for, gaps_shown)
        for ask in asks:
            ask(press, 13)
            self.assertEqual([scheme.told() for scheme in press], [FOLIO.told(), ONE.told(), QUARTO.told()])
        book = book_for(press, 13)
        press.clear()
        self.assertEqual(told_parts(book.told()[1]), [(QUARTO.told(), "behind")] * 2)

    def test_what_is_told_is_the_askers_own(self):
        press = [FOLIO, QUARTO]
        for ask in (plan_for, gaps_shown):
            ahead = repr(ask(press, 9))
            change_deeply(ask(press, 9))
            self.assertEqual(repr(ask(press, 9)), ahead)
        change_deeply(book_for(press, 9).told())
        self.assertEqual(book_for(press, 9).nest_parts(), [[1], [2]])


if __name__ == "__main__":
    unittest.main()
