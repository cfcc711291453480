"""A folding machine [90] to [92]: what is seen behind each step and each step back, and the folded stack as a book."""

import random
import unittest

from foldpress.errors import BadSheet, OutOfPlace
from foldpress.imposing import imposed
from foldpress.machine import Machine
from foldpress.scheme import Scheme
from foldpress.sheet import Sheet
from paper import NO_NUMBERS, Paper, change_deeply, many_schemes, pages_read

ONE = Scheme(1, 1, [])
FOLIO = Scheme(1, 2, [("left", 1, "over")])
QUARTO = Scheme(2, 2, [("top", 1, "under"), ("left", 1, "over")])
LETTER = Scheme(1, 3, [("left", 1, "over"), ("right", 1, "under")])


def some_sheet(rows, columns):
    """A sheet with heads both ways and blanks, the same one each time."""
    picker = random.Random(rows * 10 + columns)
    faces = [(0, False)] + [(picker.randint(1, 2000), picker.random() < 0.5) for _ in range(5)]
    sides = [[[picker.choice(faces) for _ in range(columns)] for _ in range(rows)] for _ in range(2)]
    return Sheet(sides[0], sides[1])


def seen_on(paper, front, back):
    """The uppermost faces of the paper, place by place."""
    found = {}
    for leaf in paper.leaves:
        row, column = leaf["cell"]
        page, is_turned = front[row - 1][column - 1] if leaf["front_up"] else back[row - 1][-column]
        found.setdefault((leaf["y"], leaf["x"]), (page, page != 0 and is_turned != (leaf["turns"] % 2 == 1)))
    bounds = paper.bounds
    return [[found[(y, x)] for x in range(bounds["left"], bounds["right"])]
            for y in range(bounds["top"], bounds["bottom"])]


def turned(paper):
    """The paper, all of it turned about an upright line."""
    other = Paper(1, 1)
    other.bounds = dict(paper.bounds)
    last = paper.bounds["left"] + paper.bounds["right"] - 1
    other.leaves = [dict(leaf, x=last - leaf["x"], front_up=not leaf["front_up"]) for leaf in reversed(paper.leaves)]
    return other


class TestWorkedOut(unittest.TestCase):
    def test_a_folio(self):
        machine = Machine(FOLIO, Sheet([[(2, False), (3, False)]], [[(4, False), (1, False)]]))
        self.assertEqual((machine.seen_above(), machine.seen_beneath(), machine.steps_left()),
                         ([[(2, False), (3, False)]], [[(4, False), (1, False)]], 1))
        self.assertEqual([machine.thickness_at(1, 1), machine.thickness_at(1, 2)], [1, 1])
        self.assertIsNone(machine.step())
        self.assertEqual((machine.seen_above(), machine.seen_beneath(), machine.steps_left()),
                         ([[(1, False)]], [[(4, False)]], 0))
        self.assertEqual(machine.thickness_at(1, 1), 2)
        self.assertEqual(machine.all_pages(), [(1, False), (2, False), (3, False), (4, False)])
        self.assertEqual([machine.open_at(number) for number in (0, 1, 2)],
                         [(None, (1, False)), ((2, False), (3, False)), ((4, False), None)])
        self.assertIsNone(machine.step_back())
        self.assertEqual((machine.seen_above(), machine.seen_beneath(), machine.steps_left()),
                         ([[(2, False), (3, False)]], [[(4, False), (1, False)]], 1))

    def test_a_quarto(self):
        machine = Machine(QUARTO, Sheet([[(1, True), (8, True)], [(4, False), (0, False)]],
                                        [[(7, True), (2, True)], [(6, False), (3, False)]]))
        machine.step()
        # The upper row is folded beneath the lower one: its front is lowest, with its heads up now.
        self.assertEqual(machine.seen_above(), [[(4, False), (0, False)]])
        self.assertEqual(machine.seen_beneath(), [[(8, False), (1, False)]])
        self.assertEqual([machine.thickness_at(1, 1), machine.thickness_at(1, 2)], [2, 2])
        machine.step()
        self.assertEqual(machine.seen_above(), [[(1, False)]])
        self.assertEqual(machine.seen_beneath(), [[(8, False)]])
        self.assertEqual(machine.all_pages(), [(1, False), (2, False), (3, False), (4, False), (0, False), (6, False),
                                               (7, False), (8, False)])
        self.assertEqual([machine.open_at(number) for number in (0, 1, 2, 3, 4)],
                         [(None, (1, False)), ((2, False), (3, False)), ((4, False), (0, False)),
                          ((6, False), (7, False)), ((8, False), None)])

    def test_heads_to_the_foot(self):
        machine = Machine(QUARTO, Sheet([[(1, False), (8, True)], [(4, True), (5, False)]],
                                        [[(7, False), (0, False)], [(6, True), (3, False)]]))
        machine.step()
        self.assertEqual(machine.seen_above(), [[(4, True), (5, False)]])
        self.assertEqual(machine.seen_beneath(), [[(8, False), (1, True)]])
        machine.step()
        self.assertEqual(machine.all_pages(), [(1, True), (0, False), (3, False), (4, True), (5, False), (6, True),
                                               (7, True), (8, False)])

    def test_places_of_unlike_thickness(self):
        machine = Machine(LETTER, Sheet([[(2, False), (3, False), (6, False)]], [[(5, False), (4, False), (1, True)]]))
        machine.step()
        self.assertEqual([machine.thickness_at(1, 1), machine.thickness_at(1, 2)], [2, 1])
        self.assertEqual(machine.seen_above(), [[(1, True), (6, False)]])
        self.assertEqual(machine.seen_beneath(), [[(5, False), (4, False)]])
        machine.step()
        self.assertEqual(machine.thickness_at(1, 1), 3)
        self.assertEqual(machine.seen_above(), [[(1, True)]])
        self.assertEqual(machine.seen_beneath(), [[(6, False)]])
        self.assertEqual(machine.open_at(2), ((4, False), (5, False)))

    def test_a_scheme_without_folds(self):
        machine = Machine(ONE, Sheet([[(7, True)]], [[(0, False)]]))
        self.assertEqual((machine.seen_above(), machine.seen_beneath()), ([[(7, True)]], [[(0, False)]]))
        self.assertEqual((machine.steps_left(), machine.thickness_at(1, 1)), (0, 1))
        self.assertEqual(machine.all_pages(), [(7, True), (0, False)])
        self.assertEqual([machine.open_at(0), machine.open_at(1)], [(None, (7, True)), ((0, False), None)])
        self.assertRaises(OutOfPlace, machine.step)
        self.assertRaises(OutOfPlace, machine.step_back)
        self.assertRaises(OutOfPlace, machine.open_at, 2)

    def test_kinds_of_what_is_told(self):
        machine = Machine(QUARTO, some_sheet(2, 2))
        for told in (machine.seen_above(), machine.seen_beneath()):
            self.assertEqual({type(told)} | {type(row) for row in told}, {list})
            for face in told[0] + told[1]:
                self.assertEqual([type(face)] + [type(part) for part in face], [tuple, int, bool])
        machine.step()
        machine.step()
        for face in machine.all_pages():
            self.assertEqual([type(face)] + [type(part) for part in face], [tuple, int, bool])
        self.assertEqual([type(machine.all_pages()), type(machine.open_at(1))], [list, tuple])
        self.assertEqual([type(machine.thickness_at(1, 1)), type(machine.steps_left())], [int, int])


class TestManySchemes(unittest.TestCase):
    def same(self, machine, paper, sides):
        """The machine shows what the paper does."""
        front, back = sides
        self.assertEqual(machine.seen_above(), seen_on(paper, front, back))
        self.assertEqual(machine.seen_beneath(), seen_on(turned(paper), front, back))
        rows, columns = paper.size()
        for row in range(1, rows + 1):
            for column in range(1, columns + 1):
                self.assertEqual(machine.thickness_at(row, column), len(paper.at(row, column)))

    def test_behind_each_step_and_each_step_back(self):
        for rows, columns, folds in many_schemes()[::3]:
            sheet = some_sheet(rows, columns)
            machine = Machine(Scheme(rows, columns, folds), sheet)
            papers = [Paper(rows, columns)]
            for fold in folds:
                papers.append(Paper(rows, columns))
                for done in folds[:len(papers) - 1]:
                    papers[-1].fold(*done)
            for done, paper in enumerate(papers):
                self.assertEqual(machine.steps_left(), len(folds) - done)
                self.same(machine, paper, sheet.told())
                if done < len(folds):
                    self.assertIsNone(machine.step())
            self.assertEqual(machine.all_pages(), pages_read(rows, columns, folds, *sheet.told()))
            self.assertRaises(OutOfPlace, machine.step)
            for done, paper in reversed(list(enumerate(papers))):
                self.assertEqual(machine.steps_left(), len(folds) - done)
                self.same(machine, paper, sheet.told())
                if done > 0:
                    self.assertIsNone(machine.step_back())
            self.assertRaises(OutOfPlace, machine.step_back)

    def test_unfolded_it_shows_front_and_back(self):
        for rows, columns, folds in many_schemes()[::9]:
            sheet = some_sheet(rows, columns)
            machine = Machine(Scheme(rows, columns, folds), sheet)
            self.assertEqual((machine.seen_above(), machine.seen_beneath()), sheet.told())

    def test_an_imposed_sheet_is_read_page_behind_page(self):
        for rows, columns, folds in many_schemes()[::2]:
            scheme = Scheme(rows, columns, folds)
            pages = list(range(1, 2 * rows * columns)) + [0]
            machine = Machine(scheme, imposed(scheme, pages))
            for _ in folds:
                machine.step()
            faces = [(page, False) for page in pages]
            self.assertEqual(machine.all_pages(), faces)
            last = rows * columns
            for number in range(last + 1):
                left = faces[2 * number - 1] if number > 0 else None
                right = faces[2 * number] if number < last else None
                self.assertEqual(machine.open_at(number), (left, right))

    def test_back_and_forth(self):
        scheme = Scheme(2, 4, [("right", 2, "under"), ("bottom", 1, "over"), ("left", 1, "over")])
        sheet = some_sheet(2, 4)
        machine, steps = Machine(scheme, sheet), 0
        picker = random.Random(90)
        for _ in range(60):
            if picker.random() < 0.5 and steps < 3:
                machine.step()
                steps += 1
            elif steps > 0:
                machine.step_back()
                steps -= 1
            paper = Paper(2, 4)
            for fold in scheme.told()[2][:steps]:
                paper.fold(*fold)
            self.same(machine, paper, sheet.told())
            self.assertEqual(machine.steps_left(), 3 - steps)


class TestRefused(unittest.TestCase):
    def test_a_sheet_of_another_size(self):
        for scheme in (ONE, FOLIO, QUARTO, LETTER):
            for size in ((1, 1), (1, 2), (2, 1), (2, 2), (1, 3), (3, 1), (1, 4), (4, 1), (8, 4)):
                if size != scheme.told()[:2]:
                    self.assertRaises(BadSheet, Machine, scheme, some_sheet(*size))

    def test_ahead_of_the_last_fold(self):
        machine = Machine(QUARTO, some_sheet(2, 2))
        for _ in range(2):
            self.assertRaises(OutOfPlace, machine.all_pages)
            for number in (0, 1, 2, 4, 5, None):
                self.assertRaises(OutOfPlace, machine.open_at, number)
            machine.step()
        self.assertEqual(len(machine.all_pages()), 8)
        machine.step_back()
        self.assertRaises(OutOfPlace, machine.all_pages)
        self.assertRaises(OutOfPlace, machine.open_at, 1)

    def test_numbers_that_cant_be(self):
        for scheme, leaves in ((ONE, 1), (FOLIO, 2), (QUARTO, 4), (LETTER, 3)):
            rows, columns, folds = scheme.told()
            machine = Machine(scheme, some_sheet(rows, columns))
            for _ in folds:
                machine.step()
            machine.open_at(leaves)
            for thing in NO_NUMBERS + (-1, -2, leaves + 1, leaves + 2, 2 * leaves, 10 ** 40, -10 ** 40, 0.0):
                with self.assertRaises(OutOfPlace, msg=repr(thing)):
                    machine.open_at(thing)

    def test_no_places(self):
        scheme = Scheme(2, 3, [("top", 1, "over"), ("left", 1, "over"), ("left", 1, "over")])
        machine = Machine(scheme, some_sheet(2, 3))
        for rows, columns in ((2, 3), (1, 3), (1, 2), (1, 1)):
            self.assertGreater(machine.thickness_at(rows, columns), 0)
            for thing in NO_NUMBERS + (0, -1, 9, 10 ** 40, -10 ** 40, 1.0):
                for row, column in ((thing, 1), (1, thing), (thing, thing)):
                    with self.assertRaises(OutOfPlace, msg=repr((row, column))):
                        machine.thickness_at(row, column)
            for row, column in ((rows + 1, 1), (1, columns + 1), (rows + 1, columns + 1)):
                self.assertRaises(OutOfPlace, machine.thickness_at, row, column)
            if (rows, columns) != (1, 1):
                machine.step()

    def test_refusals_change_nothing(self):
        machine = Machine(FOLIO, some_sheet(1, 2))
        ahead = (machine.seen_above(), machine.seen_beneath(), machine.steps_left())
        self.assertRaises(OutOfPlace, machine.step_back)
        self.assertRaises(OutOfPlace, machine.step_back)
        self.assertEqual((machine.seen_above(), machine.seen_beneath(), machine.steps_left()), ahead)
        machine.step()
        behind = (machine.seen_above(), machine.seen_beneath(), machine.steps_left(), machine.all_pages())
        self.assertRaises(OutOfPlace, machine.step)
        self.assertRaises(OutOfPlace, machine.step)
        self.assertEqual((machine.seen_above(), machine.seen_beneath(), machine.steps_left(), machine.all_pages()),
                         behind)
        machine.step_back()
        self.assertEqual((machine.seen_above(), machine.seen_beneath(), machine.steps_left()), ahead)


class TestOwn(unittest.TestCase):
    def test_what_is_told_is_the_askers_own(self):
        machine = Machine(QUARTO, some_sheet(2, 2))
        machine.step()
        for ask in (machine.seen_above, machine.seen_beneath):
            ahead = repr(ask())
            change_deeply(ask())
            self.assertEqual(repr(ask()), ahead)
        machine.step()
        ahead = repr(machine.all_pages())
        change_deeply(machine.all_pages())
        self.assertEqual(repr(machine.all_pages()), ahead)

    def test_what_is_handed_in_stays_and_is_not_kept(self):
        scheme = Scheme(1, 2, [("left", 1, "over")])
        sheet = Sheet([[(2, False), (3, False)]], [[(4, False), (1, False)]])
        machine = Machine(scheme, sheet)
        machine.step()
        self.assertEqual(scheme.told(), (1, 2, [("left", 1, "over")]))
        self.assertEqual(sheet.told(), ([[(2, False), (3, False)]], [[(4, False), (1, False)]]))
        machine.step_back()
        scheme.__init__(1, 1, [])
        sheet.__init__([[(5, False)]], [[(6, False)]])
        machine.step()
        self.assertEqual(machine.all_pages(), [(1, False), (2, False), (3, False), (4, False)])

    def test_two_machines_are_apart(self):
        sheet = some_sheet(2, 2)
        one, other = Machine(QUARTO, sheet), Machine(QUARTO, sheet)
        one.step()
        self.assertEqual((one.steps_left(), other.steps_left()), (1, 2))
        self.assertEqual(other.seen_above(), sheet.told()[0])


if __name__ == "__main__":
    unittest.main()
