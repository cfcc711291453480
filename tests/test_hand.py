"""A hand [101]: deeds, the numbers of the sheets that are imposed anew, refusals, and deeds taken back."""

import random
import unittest

from foldpress.book import Book, sheets_of
from foldpress.errors import BadBook, OutOfPlace, PressError
from foldpress.hand import Hand
from foldpress.scheme import Scheme
from paper import NO_NUMBERS, Alike, change_deeply, told_parts

ONE = Scheme(1, 1, [])
FOLIO = Scheme(1, 2, [("left", 1, "over")])
# Of the size of a folio, but with its pages elsewhere, and not to be sewn.
LOOSE = Scheme(1, 2, [("right", 1, "under")])
QUARTO = Scheme(2, 2, [("top", 1, "under"), ("left", 1, "over")])
LONG = Scheme(1, 4, [("left", 2, "over"), ("left", 1, "over")])
# Two that impose alike by other folds.
LEFT_FIRST = Scheme(1, 3, [("left", 1, "over"), ("right", 1, "under")])
RIGHT_FIRST = Scheme(1, 3, [("right", 1, "under"), ("left", 1, "over")])
GREAT = Scheme(4, 8, [("left", 4, "over"), ("top", 2, "under"), ("bottom", 1, "over"), ("left", 2, "over"),
                      ("left", 1, "over")])
NO_PLACES = NO_NUMBERS + (0, -1, -2, 10 ** 40, -10 ** 40, 1.0, FOLIO, Alike())
NO_SCHEMES = (None, True, 0, 1, "", "folio", [], (), FOLIO.told(), (FOLIO, "behind"), {}, {1}, b"", Scheme, object(),
              len, Alike())
NO_HOWS = ("", "Behind", "behind ", "with", "over", None, True, 0, 1, [], ["behind"], ("behind",), {}, b"behind", FOLIO,
           len, Alike())


def behind(*schemes):
    return [(scheme, "behind") for scheme in schemes]


def hand_of(pages, parts):
    return Hand(Book(pages, parts))


def told(hand):
    """What the book of a hand is."""
    pages, parts = hand.book().told()
    return (pages, told_parts(parts))


class Model:
    """A book whose parts have names; it tells which sheets are other ones than those of the same names ahead."""

    def __init__(self, pages, parts):
        self.states = [(pages, [(number, part) for number, part in enumerate(parts)])]
        self.fresh = len(parts)

    def sheets(self, state):
        pages, named = state
        book = Book(pages, [part for _, part in named])
        return [(name, sheet.told()) for (name, _), sheet in zip(named, sheets_of(book))]

    def anew(self, ahead, state):
        known = self.sheets(ahead)
        return [number for number, pair in enumerate(self.sheets(state), start=1) if pair not in known]

    def done(self, pages, named):
        """The numbers, or None where there is no such book."""
        try:
            numbers = self.anew(self.states[-1], (pages, named))
        except BadBook:
            return None
        self.states.append((pages, named))
        return numbers

    def undone(self):
        if len(self.states) == 1:
            return None
        ahead = self.states.pop()
        return self.anew(ahead, self.states[-1])

    def told(self):
        pages, named = self.states[-1]
        return (pages, told_parts([part for _, part in named]))


class TestSetPages(unittest.TestCase):
    def test_worked_out(self):
        hand = hand_of(11, behind(FOLIO, QUARTO))
        self.assertEqual(hand.set_pages(12), [2])
        self.assertEqual(told(hand), (12, told_parts(behind(FOLIO, QUARTO))))
        self.assertEqual(hand.set_pages(12), [])
        self.assertEqual(hand.set_pages(5), [2])
        self.assertEqual(told(hand)[0], 5)

    def test_in_a_nest(self):
        parts = [(QUARTO, "behind"), (FOLIO, "within")]
        hand = hand_of(12, parts)
        self.assertEqual(hand.set_pages(9), [1])
        self.assertEqual(hand.set_pages(8), [1])
        self.assertEqual(hand.set_pages(7), [2])
        self.assertEqual(hand.set_pages(4), [2])
        self.assertEqual(hand.set_pages(3), [1])
        self.assertEqual(hand.set_pages(12), [1, 2])
        self.assertEqual(hand.set_pages(8), [1])
        self.assertEqual(hand.set_pages(1), [1, 2])


class TestChangePart(unittest.TestCase):
    def test_another_scheme(self):
        hand = hand_of(8, behind(FOLIO, FOLIO))
        self.assertEqual(hand.change_part(2, LOOSE, "behind"), [2])
        self.assertEqual(told(hand), (8, told_parts(behind(FOLIO, LOOSE))))
        # The sheets behind one of another size bear other pages.
        hand = hand_of(15, behind(FOLIO, FOLIO, QUARTO))
        self.assertEqual(hand.change_part(1, LEFT_FIRST, "behind"), [1, 2, 3])
        self.assertEqual(hand.change_part(3, QUARTO, "behind"), [])

    def test_a_scheme_that_imposes_alike(self):
        hand = hand_of(10, behind(LEFT_FIRST, FOLIO))
        self.assertEqual(hand.change_part(1, RIGHT_FIRST, "behind"), [])
        self.assertEqual(told(hand), (10, told_parts(behind(RIGHT_FIRST, FOLIO))))
        self.assertEqual(hand.undo(), [])
        self.assertEqual(told(hand), (10, told_parts(behind(LEFT_FIRST, FOLIO))))

    def test_another_way(self):
        hand = hand_of(8, behind(FOLIO, FOLIO))
        self.assertEqual(hand.change_part(2, FOLIO, "within"), [1, 2])
        self.assertEqual(hand.book().nest_parts(), [[1, 2]])
        self.assertEqual(hand.change_part(2, FOLIO, "behind"), [1, 2])
        # The first quarto bears other pages when one is put into it; what is behind both stays.
        hand = hand_of(20, behind(QUARTO, FOLIO, QUARTO))
        self.assertEqual(hand.change_part(2, FOLIO, "within"), [1, 2])
        self.assertEqual(hand.change_part(2, QUARTO, "within"), [1, 2, 3])

    def test_nothing_is_changed(self):
        hand = hand_of(8, behind(FOLIO, FOLIO))
        self.assertEqual(hand.change_part(1, Scheme(1, 2, [("left", 1, "over")]), "behind"), [])
        self.assertEqual(hand.undo(), [])
        self.assertRaises(OutOfPlace, hand.undo)


class TestPutAndTakePart(unittest.TestCase):
    def test_gathered(self):
        hand = hand_of(15, behind(QUARTO, QUARTO))
        self.assertEqual(hand.put_part(2, FOLIO, "behind"), [2, 3])
        self.assertEqual(told(hand), (15, told_parts(behind(QUARTO, FOLIO, QUARTO))))
        self.assertEqual(hand.put_part(1, ONE, "behind"), [1, 2, 3, 4])
        self.assertEqual(told(hand), (15, told_parts(behind(ONE, QUARTO, FOLIO, QUARTO))))
        self.assertEqual(hand.take_part(3), [3])
        self.assertEqual(told(hand), (15, told_parts(behind(ONE, QUARTO, QUARTO))))
        self.assertEqual(hand.take_part(1), [1, 2])
        self.assertEqual(told(hand), (15, told_parts(behind(QUARTO, QUARTO))))

    def test_behind_all(self):
        hand = hand_of(8, behind(FOLIO, FOLIO))
        self.assertRaises(BadBook, hand.put_part, 3, FOLIO, "behind")
        self.assertEqual(hand.put_part(3, FOLIO, "within"), [2, 3])
        self.assertEqual(told(hand), (8, [(FOLIO.told(), "behind")] * 2 + [(FOLIO.told(), "within")]))
        self.assertEqual([hand.book().part_pages(part) for part in (2, 3)], [[5, 6, 0, 0], [7, 8, 0, 0]])
        self.assertEqual(hand.take_part(3), [2])

    def test_a_part_without_pages_leaves_all_others_as_they_are(self):
        hand = hand_of(2, behind(FOLIO))
        self.assertEqual(hand.put_part(2, FOLIO, "within"), [2])
        self.assertEqual(hand.book().part_pages(2), [0, 0, 0, 0])
        self.assertEqual(hand.take_part(2), [])
        self.assertEqual(told(hand), (2, told_parts(behind(FOLIO))))

    def test_parts_that_move_and_have_the_same_sheet(self):
        hand = hand_of(2, [(FOLIO, "behind"), (FOLIO, "within")])
        self.assertEqual(hand.put_part(2, QUARTO, "within"), [2])
        self.assertEqual(told(hand)[1], told_parts([(FOLIO, "behind"), (QUARTO, "within"), (FOLIO, "within")]))
        self.assertEqual(hand.put_part(2, QUARTO, "within"), [2])
        self.assertEqual(hand.take_part(2), [])
        self.assertEqual(hand.take_part(2), [])
        self.assertEqual(told(hand)[1], told_parts([(FOLIO, "behind"), (FOLIO, "within")]))

    def test_sheets_are_compared_part_by_part_not_number_by_number(self):
        hand = hand_of(4, [(FOLIO, "behind"), (FOLIO, "within")])
        # The new second part bears what the second one bore ahead, and this one nothing any more.
        self.assertEqual(hand.book().part_pages(2), [3, 4, 0, 0])
        self.assertEqual(hand.put_part(2, FOLIO, "within"), [2, 3])
        self.assertEqual([hand.book().part_pages(part) for part in (1, 2, 3)],
                         [[1, 2, 0, 0], [3, 4, 0, 0], [0, 0, 0, 0]])
        # Now the third one is the second one, and bears its pages again.
        self.assertEqual(hand.take_part(2), [2])
        self.assertEqual([hand.book().part_pages(part) for part in (1, 2)], [[1, 2, 0, 0], [3, 4, 0, 0]])

    def test_a_part_that_is_put_again_is_another_one(self):
        hand = hand_of(2, behind(FOLIO))
        for _ in range(3):
            self.assertEqual(hand.put_part(2, FOLIO, "within"), [2])
            self.assertEqual(hand.undo(), [])
        for _ in range(3):
            self.assertEqual(hand.put_part(2, FOLIO, "within"), [2])
        self.assertEqual([hand.take_part(2), hand.take_part(3), hand.take_part(2)], [[], [], []])


class TestUndo(unittest.TestCase):
    def test_one_deed_behind_another_down_to_none(self):
        hand = hand_of(11, behind(FOLIO, QUARTO))
        states = [told(hand)]
        for deed, numbers in ((lambda: hand.set_pages(10), [2]), (lambda: hand.change_part(1, LOOSE, "behind"), [1]),
                              (lambda: hand.put_part(2, FOLIO, "behind"), [2, 3]), (lambda: hand.set_pages(12), [3]),
                              (lambda: hand.take_part(1), [1, 2])):
            self.assertEqual(deed(), numbers)
            states.append(told(hand))
        for numbers in ([1, 2, 3], [3], [2], [1], [2]):
            self.assertEqual(told(hand), states.pop())
            self.assertEqual(hand.undo(), numbers)
        self.assertEqual([told(hand)], states)
        for _ in range(2):
            self.assertRaises(OutOfPlace, hand.undo)
        self.assertEqual([told(hand)], states)

    def test_nothing_to_take_back(self):
        hand = hand_of(4, behind(FOLIO))
        self.assertRaises(OutOfPlace, hand.undo)
        hand.set_pages(3)
        hand.undo()
        self.assertRaises(OutOfPlace, hand.undo)

    def test_a_part_that_comes_back(self):
        hand = hand_of(2, [(FOLIO, "behind"), (QUARTO, "within"), (FOLIO, "within")])
        self.assertEqual(hand.take_part(2), [])
        self.assertEqual(hand.undo(), [2])
        self.assertEqual(told(hand)[1], told_parts([(FOLIO, "behind"), (QUARTO, "within"), (FOLIO, "within")]))
        self.assertEqual(hand.take_part(3), [])
        self.assertEqual(hand.take_part(2), [])
        self.assertEqual([hand.undo(), hand.undo()], [[2], [3]])

    def test_a_part_that_goes_again(self):
        hand = hand_of(4, [(FOLIO, "behind"), (FOLIO, "within")])
        self.assertEqual(hand.put_part(2, FOLIO, "within"), [2, 3])
        self.assertEqual(hand.undo(), [2])
        self.assertEqual(told(hand)[1], told_parts([(FOLIO, "behind"), (FOLIO, "within")]))

    def test_a_deed_behind_one_that_was_taken_back(self):
        hand = hand_of(4, behind(FOLIO))
        hand.set_pages(3)
        hand.set_pages(2)
        self.assertEqual(hand.undo(), [1])
        hand.set_pages(1)
        self.assertEqual(told(hand)[0], 1)
        self.assertEqual([hand.undo(), told(hand)[0]], [[1], 3])
        self.assertEqual([hand.undo(), told(hand)[0]], [[1], 4])
        self.assertRaises(OutOfPlace, hand.undo)


class TestManyDeeds(unittest.TestCase):
    def deed(self, picker, hand, model):
        """Does a deed, or has it refused, by hand and model alike."""
        pool = [FOLIO, FOLIO, QUARTO, LONG, ONE, LOOSE, LEFT_FIRST, RIGHT_FIRST, GREAT]
        pages, named = model.states[-1]
        kind = picker.choice(("set", "change", "put", "take", "undo"))
        scheme, how = picker.choice(pool), picker.choice(("behind", "within"))
        part = picker.randint(1, len(named) + (kind == "put"))
        if kind == "set":
            many = picker.choice((picker.randint(1, 40), pages + 1, pages, pages - 1))
            return model.done(many, named), lambda: hand.set_pages(many)
        if kind == "change":
            changed = named[:part - 1] + [(named[part - 1][0], (scheme, how))] + named[part:]
            return model.done(pages, changed), lambda: hand.change_part(part, scheme, how)
        if kind == "put":
            model.fresh += 1
            more = named[:part - 1] + [(model.fresh, (scheme, how))] + named[part - 1:]
            return model.done(pages, more), lambda: hand.put_part(part, scheme, how)
        if kind == "take":
            return model.done(pages, named[:part - 1] + named[part:]), lambda: hand.take_part(part)
        return model.undone(), hand.undo

    def test_many_deeds(self):
        done = {}
        for seed in range(40):
            picker = random.Random(seed)
            parts = [(FOLIO, "behind"), (picker.choice((FOLIO, QUARTO)), picker.choice(("behind", "within")))]
            pages = picker.randint(5, 8)
            hand, model = hand_of(pages, parts), Model(pages, parts)
            for _ in range(40):
                numbers, deed = self.deed(picker, hand, model)
                if numbers is None:
                    self.assertRaises(PressError, deed)
                else:
                    self.assertEqual(deed(), numbers)
                    done[len(numbers)] = done.get(len(numbers), 0) + 1
                self.assertEqual(told(hand), model.told())
            while len(model.states) > 1:
                numbers = model.undone()
                self.assertEqual(hand.undo(), numbers)
                self.assertEqual(told(hand), model.told())
            self.assertRaises(OutOfPlace, hand.undo)
        self.assertGreater(min(done[many] for many in (0, 1, 2, 3)), 20)


class TestRefused(unittest.TestCase):
    def setUp(self):
        self.parts = [(QUARTO, "behind"), (FOLIO, "within"), (FOLIO, "behind")]
        self.hand = hand_of(14, self.parts)
        self.hand.set_pages(15)
        self.ahead = told(self.hand)

    def refused(self, error, deed, *things):
        with self.assertRaises(error, msg=repr(things)) as caught:
            deed(*things)
        self.assertIs(type(caught.exception), error)
        self.assertEqual(told(self.hand), self.ahead)

    def tearDown(self):
        # There is one deed to be taken back, and no other.
        self.assertEqual(told(self.hand), self.ahead)
        self.assertEqual(self.hand.undo(), [3])
        self.assertEqual(told(self.hand), (14, told_parts(self.parts)))
        self.assertRaises(OutOfPlace, self.hand.undo)

    def test_parts_that_arent_there(self):
        for thing in NO_PLACES + (4, 5):
            self.refused(OutOfPlace, self.hand.take_part, thing)
            self.refused(OutOfPlace, self.hand.change_part, thing, FOLIO, "behind")
        for thing in NO_PLACES + (5, 6):
            self.refused(OutOfPlace, self.hand.put_part, thing, FOLIO, "within")

    def test_they_are_ahead_of_no_books(self):
        for thing in NO_PLACES + (5,):
            for scheme, how in ((None, "behind"), (FOLIO, "x"), (None, None), (Alike(), Alike()), ([], [])):
                self.refused(OutOfPlace, self.hand.change_part, thing, scheme, how)
                self.refused(OutOfPlace, self.hand.put_part, thing, scheme, how)
        self.refused(OutOfPlace, self.hand.change_part, 4, None, None)
        self.refused(BadBook, self.hand.put_part, 4, None, None)
        for part in (1, 2, 3):
            self.refused(BadBook, self.hand.put_part, part, None, None)
            self.refused(BadBook, self.hand.change_part, part, None, None)

    def test_no_pages(self):
        for thing in NO_NUMBERS + (0, -1, 17, 12, 11, 1, 2000, 2001, 10 ** 40, -10 ** 40, 1.0, FOLIO, Alike()):
            self.refused(BadBook, self.hand.set_pages, thing)

    def test_no_schemes_and_no_ways(self):
        for part in (1, 2, 3):
            for thing in NO_SCHEMES:
                self.refused(BadBook, self.hand.change_part, part, thing, "behind")
                self.refused(BadBook, self.hand.put_part, part, thing, "behind")
            for thing in NO_HOWS:
                self.refused(BadBook, self.hand.change_part, part, FOLIO, thing)
                self.refused(BadBook, self.hand.put_part, part, FOLIO, thing)
                self.refused(BadBook, self.hand.put_part, 4, FOLIO, thing)

    def test_no_books(self):
        self.refused(BadBook, self.hand.change_part, 1, QUARTO, "within")
        self.refused(BadBook, self.hand.change_part, 1, LEFT_FIRST, "behind")
        self.refused(BadBook, self.hand.change_part, 2, LOOSE, "within")
        self.refused(BadBook, self.hand.change_part, 3, ONE, "behind")
        self.refused(BadBook, self.hand.change_part, 1, GREAT, "behind")
        self.refused(BadBook, self.hand.put_part, 1, FOLIO, "within")
        self.refused(BadBook, self.hand.put_part, 1, QUARTO, "behind")
        self.refused(BadBook, self.hand.put_part, 4, FOLIO, "behind")
        self.refused(BadBook, self.hand.put_part, 4, LOOSE, "within")
        self.refused(BadBook, self.hand.take_part, 1)
        self.refused(BadBook, self.hand.take_part, 2)
        self.refused(BadBook, self.hand.take_part, 3)

    def test_the_only_part(self):
        hand = hand_of(1, behind(ONE))
        self.assertRaises(BadBook, hand.take_part, 1)
        self.assertRaises(OutOfPlace, hand.take_part, 2)
        self.assertRaises(OutOfPlace, hand.undo)
        self.assertEqual(told(hand), (1, told_parts(behind(ONE))))

    def test_more_than_a_thousand_parts(self):
        hand = hand_of(2000, behind(*[ONE] * 1000))
        for part in (1, 500, 1000, 1001):
            self.assertRaises(BadBook, hand.put_part, part, ONE, "behind")
        self.assertRaises(OutOfPlace, hand.put_part, 1002, ONE, "behind")
        self.assertRaises(OutOfPlace, hand.undo)


class TestOwn(unittest.TestCase):
    def test_the_book_that_is_handed_in_stays(self):
        book = Book(8, behind(FOLIO, FOLIO))
        hand = Hand(book)
        hand.set_pages(7)
        hand.change_part(2, LOOSE, "behind")
        hand.put_part(1, ONE, "behind")
        self.assertEqual((book.told()[0], told_parts(book.told()[1])), (8, told_parts(behind(FOLIO, FOLIO))))
        self.assertEqual(book.nest_parts(), [[1], [2]])

    def test_the_book_that_is_handed_in_is_not_kept(self):
        book = Book(8, behind(FOLIO, FOLIO))
        hand = Hand(book)
        book.__init__(2, behind(ONE))
        self.assertEqual(told(hand), (8, told_parts(behind(FOLIO, FOLIO))))

    def test_the_book_that_is_told_is_the_askers_own(self):
        hand = hand_of(8, behind(FOLIO, FOLIO))
        book = hand.book()
        self.assertIs(type(book), Book)
        hand.set_pages(7)
        self.assertEqual(book.told()[0], 8)
        change_deeply(hand.book().told())
        hand.book().__init__(2, behind(ONE))
        self.assertEqual(told(hand), (7, told_parts(behind(FOLIO, FOLIO))))
        self.assertEqual(hand.undo(), [2])

    def test_no_scheme_that_is_handed_in_is_kept(self):
        hand = hand_of(8, behind(FOLIO, FOLIO))
        scheme = Scheme(1, 2, [("right", 1, "under")])
        hand.change_part(2, scheme, "behind")
        scheme.__init__(1, 1, [])
        self.assertEqual(told(hand), (8, told_parts(behind(FOLIO, LOOSE))))

    def test_numbers_are_the_askers_own(self):
        hand = hand_of(8, behind(FOLIO, FOLIO))
        numbers = hand.set_pages(7)
        self.assertEqual([type(numbers)] + [type(number) for number in numbers], [list, int])
        change_deeply(numbers)
        self.assertEqual([hand.set_pages(6), hand.undo()], [[2], [2]])


if __name__ == "__main__":
    unittest.main()
