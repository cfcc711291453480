"""Stacks [20] [21]: where leaves come to lie behind each fold, what is refused, unfolding and copies."""

import unittest

from foldpress.errors import BadScheme, OutOfPlace
from foldpress.scheme import Scheme
from foldpress.stack import Stack, folded_stack
from paper import (EDGES, NO_EDGES, NO_NUMBERS, NO_SIZES, WAYS, Alike, Paper, change_deeply, first_folds, folded,
                   many_schemes, some_folds)

NO_WAYS = ("", "Over", "over ", "ove", "left", "behind", None, True, 0, 1, ["over"], ("over",), b"over", {}, len,
           Alike())


def flat(rows, columns):
    return [[[(row, column, False, False)] for column in range(1, columns + 1)] for row in range(1, rows + 1)]


def folded_by(rows, columns, *folds):
    stack = Stack(rows, columns)
    for fold in folds:
        stack.fold_part(*fold)
    return stack


class TestFlat(unittest.TestCase):
    def test_each_cell_lies_alone_at_its_own_place_front_up(self):
        for rows in range(1, 9):
            for columns in range(1, 9):
                if rows * columns <= 32:
                    stack = Stack(rows, columns)
                    self.assertEqual(stack.size(), (rows, columns))
                    self.assertEqual(stack.all_leaves(), flat(rows, columns))
        self.assertEqual(Stack(2, 2).all_leaves(),
                         [[[(1, 1, False, False)], [(1, 2, False, False)]],
                          [[(2, 1, False, False)], [(2, 2, False, False)]]])

    def test_each_place(self):
        stack = Stack(3, 5)
        for row in range(1, 4):
            for column in range(1, 6):
                self.assertEqual(stack.leaves_at(row, column), [(row, column, False, False)])

    def test_kinds_of_what_is_told(self):
        stack = folded_by(2, 3, ("left", 1, "over"))
        self.assertIs(type(stack.size()), tuple)
        self.assertEqual([type(many) for many in stack.size()], [int, int])
        told = stack.all_leaves()
        self.assertEqual({type(told)} | {type(row) for row in told} | {type(place) for row in told for place in row},
                         {list})
        for leaf in stack.leaves_at(1, 1):
            self.assertEqual([type(leaf)] + [type(part) for part in leaf], [tuple, int, int, bool, bool])

    def test_sizes_that_cant_be(self):
        for rows, columns in NO_SIZES:
            self.refused_at_0(rows, columns)
        for thing in NO_NUMBERS:
            self.refused_at_0(thing, 1)
            self.refused_at_0(1, thing)
            self.refused_at_0(thing, thing)

    def refused_at_0(self, rows, columns):
        with self.assertRaises(BadScheme, msg=repr((rows, columns))) as caught:
            Stack(rows, columns)
        self.assertEqual(caught.exception.at, 0)


class TestOneFold(unittest.TestCase):
    """Worked out by hand."""

    def test_left(self):
        over = folded_by(1, 3, ("left", 1, "over"))
        self.assertEqual(over.all_leaves(), [[[(1, 1, True, False), (1, 2, False, False)], [(1, 3, False, False)]]])
        under = folded_by(1, 3, ("left", 1, "under"))
        self.assertEqual(under.all_leaves(), [[[(1, 2, False, False), (1, 1, True, False)], [(1, 3, False, False)]]])

    def test_right(self):
        over = folded_by(1, 3, ("right", 1, "over"))
        self.assertEqual(over.all_leaves(), [[[(1, 1, False, False)], [(1, 3, True, False), (1, 2, False, False)]]])
        under = folded_by(1, 3, ("right", 1, "under"))
        self.assertEqual(under.all_leaves(), [[[(1, 1, False, False)], [(1, 2, False, False), (1, 3, True, False)]]])

    def test_top(self):
        over = folded_by(3, 1, ("top", 1, "over"))
        self.assertEqual(over.all_leaves(), [[[(1, 1, False, True), (2, 1, False, False)]], [[(3, 1, False, False)]]])
        under = folded_by(3, 1, ("top", 1, "under"))
        self.assertEqual(under.all_leaves(), [[[(2, 1, False, False), (1, 1, False, True)]], [[(3, 1, False, False)]]])

    def test_bottom(self):
        over = folded_by(3, 1, ("bottom", 1, "over"))
        self.assertEqual(over.all_leaves(), [[[(1, 1, False, False)]], [[(3, 1, False, True), (2, 1, False, False)]]])
        under = folded_by(3, 1, ("bottom", 1, "under"))
        self.assertEqual(under.all_leaves(), [[[(1, 1, False, False)]], [[(2, 1, False, False), (3, 1, False, True)]]])

    def test_the_nearest_to_the_line_comes_upon_its_neighbour(self):
        self.assertEqual(folded_by(1, 5, ("left", 2, "over")).all_leaves(),
                         [[[(1, 2, True, False), (1, 3, False, False)], [(1, 1, True, False), (1, 4, False, False)],
                           [(1, 5, False, False)]]])
        self.assertEqual(folded_by(1, 5, ("right", 2, "under")).all_leaves(),
                         [[[(1, 1, False, False)], [(1, 2, False, False), (1, 5, True, False)],
                           [(1, 3, False, False), (1, 4, True, False)]]])
        self.assertEqual(folded_by(5, 1, ("top", 2, "under")).all_leaves(),
                         [[[(3, 1, False, False), (2, 1, False, True)]], [[(4, 1, False, False), (1, 1, False, True)]],
                          [[(5, 1, False, False)]]])
        self.assertEqual(folded_by(5, 1, ("bottom", 2, "over")).all_leaves(),
                         [[[(1, 1, False, False)]], [[(5, 1, False, True), (2, 1, False, False)]],
                          [[(4, 1, False, True), (3, 1, False, False)]]])

    def test_each_row_of_the_folded_columns(self):
        self.assertEqual(folded_by(2, 2, ("right", 1, "over")).all_leaves(),
                         [[[(1, 2, True, False), (1, 1, False, False)]], [[(2, 2, True, False), (2, 1, False, False)]]])
        self.assertEqual(folded_by(2, 2, ("bottom", 1, "under")).all_leaves(),
                         [[[(1, 1, False, False), (2, 1, False, True)], [(1, 2, False, False), (2, 2, False, True)]]])


class TestSomeFolds(unittest.TestCase):
    def test_a_quarto(self):
        stack = folded_by(2, 2, ("top", 1, "under"))
        self.assertEqual((stack.size(), stack.leaves_at(1, 1), stack.leaves_at(1, 2)),
                         ((1, 2), [(2, 1, False, False), (1, 1, False, True)],
                          [(2, 2, False, False), (1, 2, False, True)]))
        stack.fold_part("left", 1, "over")
        self.assertEqual((stack.size(), stack.leaves_at(1, 1)),
                         ((1, 1), [(1, 1, True, True), (2, 1, True, False), (2, 2, False, False), (1, 2, False, True)]))

    def test_moved_leaves_lie_the_other_way_round(self):
        stack = folded_by(1, 4, ("left", 2, "over"), ("right", 1, "under"))
        self.assertEqual(stack.leaves_at(1, 1),
                         [(1, 2, True, False), (1, 3, False, False), (1, 4, True, False), (1, 1, False, False)])

    def test_turned_twice_is_not_turned(self):
        stack = folded_by(4, 1, ("top", 2, "over"), ("top", 1, "over"))
        self.assertEqual(stack.leaves_at(1, 1),
                         [(3, 1, False, True), (2, 1, False, False), (1, 1, False, True), (4, 1, False, False)])

    def test_places_are_counted_anew(self):
        stack = folded_by(3, 5, ("left", 2, "over"), ("top", 1, "under"))
        self.assertEqual(stack.size(), (2, 3))
        self.assertEqual(stack.leaves_at(1, 1), [(2, 2, True, False), (2, 3, False, False),
                                                 (1, 3, False, True), (1, 2, True, True)])
        self.assertEqual(stack.leaves_at(2, 3), [(3, 5, False, False)])

    def test_behind_each_fold_of_many_schemes(self):
        for rows, columns, folds in many_schemes():
            stack, paper = Stack(rows, columns), Paper(rows, columns)
            for fold in folds:
                self.assertIsNone(stack.fold_part(*fold))
                paper.fold(*fold)
                self.assertEqual((stack.size(), stack.all_leaves()), (paper.size(), paper.everywhere()))
                last_row, last_column = paper.size()
                self.assertEqual(stack.leaves_at(1, last_column), paper.at(1, last_column))
                self.assertEqual(stack.leaves_at(last_row, 1), paper.at(last_row, 1))

    def test_each_first_fold_of_each_size(self):
        for rows in range(1, 9):
            for columns in range(1, 9):
                if rows * columns > 32:
                    continue
                for fold, left in first_folds(rows, columns):
                    stack = folded_by(rows, columns, fold)
                    self.assertEqual(stack.size(), left)
                    self.assertEqual(stack.all_leaves(), folded(rows, columns, [fold]).everywhere())


class TestPlaces(unittest.TestCase):
    def test_places_that_arent_there(self):
        stack = folded_by(4, 4, ("left", 1, "over"), ("top", 2, "over"))
        self.assertEqual(stack.size(), (2, 3))
        for row, column in ((0, 1), (1, 0), (3, 1), (1, 4), (4, 4), (-1, -1), (-2, 1), (1, -3), (10 ** 40, 1)):
            self.refused(stack, row, column)
        for thing in NO_NUMBERS:
            self.refused(stack, thing, 1)
            self.refused(stack, 1, thing)

    def test_one_place_is_left(self):
        stack = folded_by(1, 2, ("left", 1, "over"))
        self.assertEqual(len(stack.leaves_at(1, 1)), 2)
        self.refused(stack, 1, 2)
        self.refused(stack, 2, 1)

    def refused(self, stack, row, column):
        told = stack.all_leaves()
        with self.assertRaises(OutOfPlace, msg=repr((row, column))):
            stack.leaves_at(row, column)
        self.assertEqual(stack.all_leaves(), told)


class TestFoldsThatCantBe(unittest.TestCase):
    def refused(self, stack, edge, many, way):
        size, told = stack.size(), stack.all_leaves()
        with self.assertRaises(OutOfPlace, msg=repr((edge, many, way))):
            stack.fold_part(edge, many, way)
        self.assertEqual((stack.size(), stack.all_leaves()), (size, told))

    def test_no_edge_and_no_way(self):
        stack = folded_by(4, 4, ("left", 1, "over"))
        for edge in NO_EDGES:
            self.refused(stack, edge, 1, "over")
        for way in NO_WAYS:
            for edge in EDGES:
                self.refused(stack, edge, 1, way)
        self.refused(stack, "over", 1, "left")

    def test_no_number(self):
        stack = Stack(4, 4)
        for edge in EDGES:
            for thing in NO_NUMBERS:
                self.refused(stack, edge, thing, "over")
            for many in (0, -1, -2, 3, 4, 10 ** 40, -10 ** 40):
                self.refused(stack, edge, many, "under")

    def test_more_than_half_of_what_is_left(self):
        for size in range(1, 9):
            for many in range(1, 10):
                for way in WAYS:
                    for edge in ("left", "right"):
                        self.half(Stack(1, size), size, edge, many, way)
                    for edge in ("top", "bottom"):
                        self.half(Stack(size, 1), size, edge, many, way)

    def half(self, stack, size, edge, many, way):
        if 2 * many > size:
            self.refused(stack, edge, many, way)
        else:
            stack.fold_part(edge, many, way)
            self.assertEqual(max(stack.size()), size - many)

    def test_what_is_left_counts_and_not_the_sheet(self):
        stack = folded_by(2, 8, ("left", 3, "over"))
        self.refused(stack, "right", 3, "over")
        self.refused(stack, "top", 2, "over")
        stack.fold_part("right", 2, "over")
        self.assertEqual(stack.size(), (2, 3))

    def test_nothing_is_left_to_fold(self):
        for stack in (Stack(1, 1), folded_by(1, 2, ("left", 1, "over")), folded_by(2, 1, ("top", 1, "under"))):
            for edge in EDGES:
                for way in WAYS:
                    self.refused(stack, edge, 1, way)

    def test_what_is_refused_is_nothing_to_unfold(self):
        stack = Stack(4, 4)
        self.refused(stack, "left", 3, "over")
        with self.assertRaises(OutOfPlace):
            stack.unfold()
        stack.fold_part("left", 2, "over")
        self.refused(stack, "left", 2, "over")
        stack.unfold()
        self.assertEqual(stack.all_leaves(), flat(4, 4))


class TestUnfold(unittest.TestCase):
    def test_back_to_the_sheet_fold_by_fold(self):
        for rows, columns in ((1, 2), (2, 1), (3, 5), (8, 4), (4, 8), (5, 6)):
            for folds in some_folds(rows, columns, 10):
                stack = Stack(rows, columns)
                states = []
                for fold in folds:
                    states.append((stack.size(), stack.all_leaves()))
                    stack.fold_part(*fold)
                while states:
                    self.assertIsNone(stack.unfold())
                    self.assertEqual((stack.size(), stack.all_leaves()), states.pop())
                self.nothing_to_unfold(stack, rows, columns)

    def nothing_to_unfold(self, stack, rows, columns):
        with self.assertRaises(OutOfPlace):
            stack.unfold()
        self.assertEqual(stack.all_leaves(), flat(rows, columns))

    def test_nothing_to_unfold(self):
        stack = Stack(2, 2)
        self.nothing_to_unfold(stack, 2, 2)
        self.nothing_to_unfold(stack, 2, 2)
        stack.fold_part("top", 1, "over")
        stack.unfold()
        self.nothing_to_unfold(stack, 2, 2)

    def test_folded_anew(self):
        stack = folded_by(1, 4, ("left", 2, "over"))
        stack.unfold()
        stack.fold_part("right", 1, "under")
        self.assertEqual(stack.all_leaves(), folded(1, 4, [("right", 1, "under")]).everywhere())
        stack.unfold()
        self.assertEqual(stack.all_leaves(), flat(1, 4))


class TestCopied(unittest.TestCase):
    def test_it_is_another_stack_alike(self):
        for rows, columns in ((1, 1), (3, 5), (8, 4)):
            stack = folded_by(rows, columns, *some_folds(rows, columns, 1)[0][:3])
            other = stack.copied()
            self.assertIs(type(other), Stack)
            self.assertIsNot(other, stack)
            self.assertEqual((other.size(), other.all_leaves()), (stack.size(), stack.all_leaves()))

    def test_it_goes_its_own_way(self):
        stack = folded_by(1, 4, ("left", 1, "over"))
        before = stack.all_leaves()
        other = stack.copied()
        other.fold_part("right", 1, "under")
        self.assertEqual((stack.size(), stack.all_leaves()), ((1, 3), before))
        self.assertEqual(other.size(), (1, 2))
        stack.fold_part("left", 1, "under")
        self.assertEqual(other.all_leaves(), folded(1, 4, [("left", 1, "over"), ("right", 1, "under")]).everywhere())
        self.assertEqual(stack.all_leaves(), folded(1, 4, [("left", 1, "over"), ("left", 1, "under")]).everywhere())

    def test_it_can_be_unfolded_as_far(self):
        stack = folded_by(3, 2, ("left", 1, "over"), ("top", 1, "under"))
        other = stack.copied()
        other.unfold()
        self.assertEqual(other.all_leaves(), folded(3, 2, [("left", 1, "over")]).everywhere())
        self.assertEqual(stack.size(), (2, 1))
        other.unfold()
        self.assertEqual(other.all_leaves(), flat(3, 2))
        with self.assertRaises(OutOfPlace):
            other.unfold()
        stack.unfold()
        self.assertEqual(stack.all_leaves(), folded(3, 2, [("left", 1, "over")]).everywhere())
        stack.unfold()
        self.assertEqual(stack.all_leaves(), flat(3, 2))
        with self.assertRaises(OutOfPlace):
            stack.unfold()

    def test_what_the_first_one_unfolds_stays_with_the_copy(self):
        stack = folded_by(1, 4, ("left", 2, "over"), ("left", 1, "over"))
        other = stack.copied()
        stack.unfold()
        stack.unfold()
        self.assertEqual(other.size(), (1, 1))
        other.unfold()
        self.assertEqual(other.size(), (1, 2))

    def test_a_copy_of_a_copy(self):
        stack = folded_by(1, 4, ("left", 2, "over"))
        other = stack.copied().copied()
        stack.unfold()
        other.unfold()
        self.assertEqual(other.all_leaves(), flat(1, 4))


class TestTold(unittest.TestCase):
    def test_told_lists_are_the_askers_own(self):
        stack = folded_by(3, 5, ("left", 2, "over"), ("top", 1, "under"))
        everywhere, here = stack.all_leaves(), stack.leaves_at(1, 1)
        change_deeply(stack.all_leaves())
        change_deeply(stack.leaves_at(1, 1))
        self.assertEqual((stack.all_leaves(), stack.leaves_at(1, 1)), (everywhere, here))
        stack.unfold()
        stack.fold_part("top", 1, "under")
        self.assertEqual((stack.all_leaves(), stack.leaves_at(1, 1)), (everywhere, here))

    def test_what_was_told_stays_whatever_is_done_later(self):
        stack = Stack(2, 2)
        everywhere, here, size = stack.all_leaves(), stack.leaves_at(1, 1), stack.size()
        stack.fold_part("left", 1, "over")
        self.assertEqual((everywhere, here, size), (flat(2, 2), [(1, 1, False, False)], (2, 2)))


class TestFoldedStack(unittest.TestCase):
    def test_all_folds_are_done(self):
        for rows, columns, folds in many_schemes():
            stack = folded_stack(Scheme(rows, columns, folds))
            self.assertIs(type(stack), Stack)
            self.assertEqual(stack.size(), (1, 1))
            self.assertEqual(stack.all_leaves(), folded(rows, columns, folds).everywhere())

    def test_it_can_be_unfolded(self):
        folds = [("left", 2, "over"), ("top", 1, "under"), ("left", 1, "over")]
        stack = folded_stack(Scheme(2, 4, folds))
        for many in (2, 1, 0):
            stack.unfold()
            self.assertEqual(stack.all_leaves(), folded(2, 4, folds[:many]).everywhere())
        with self.assertRaises(OutOfPlace):
            stack.unfold()

    def test_each_one_is_the_askers_own(self):
        scheme = Scheme(1, 2, [("left", 1, "over")])
        folded_stack(scheme).unfold()
        self.assertEqual(folded_stack(scheme).size(), (1, 1))
        self.assertEqual(scheme.told(), (1, 2, [("left", 1, "over")]))


if __name__ == "__main__":
    unittest.main()
