"""Paper, folded in another way than the program does it, to compare the two; and lists that tests share."""

import random

from foldpress.errors import BadRow

EDGES = ("left", "right", "top", "bottom")
WAYS = ("over", "under")


class Alike:
    """Says of anything that it is the same."""

    def __eq__(self, other):
        return True

    def __hash__(self):
        return 1


# No whole numbers; True stands here, for it is no 1.
NO_NUMBERS = (None, True, False, "", "1", "2", [], [1], (), (1,), {}, set(), b"1", object(), len)
NO_TEXTS = (None, True, False, 0, 1, [], ["sheet 1 1"], ("sheet 1 1",), {}, set(), b"sheet 1 1", b".", object(), len)
NO_SIZES = ((0, 1), (1, 0), (0, 0), (-1, 1), (1, -1), (-2, -3), (9, 1), (1, 9), (8, 5), (5, 8), (6, 6), (8, 8), (7, 5),
            (1, 32), (32, 1), (10 ** 40, 1), (1, 10 ** 40))
NO_EDGES = ("", "Left", "left ", "lef", "over", "up", "front", None, True, 0, 1, ["left"], ("left",), b"left", {}, len,
            Alike())
# Sizes with few enough schemes that a test can go through all of them.
SMALL_SIZES = ((1, 1), (1, 2), (2, 1), (1, 3), (3, 1), (1, 4), (4, 1), (2, 2), (2, 3), (3, 2))
GREAT_SIZES = ((8, 4), (4, 8), (6, 5), (5, 6), (8, 1), (1, 8), (7, 4), (3, 7), (2, 4), (4, 4))


class Paper:
    """Leaves in the plane, from above downwards; a fold mirrors those beyond a line and turns their order over."""

    def __init__(self, rows, columns):
        self.bounds = {"left": 0, "right": columns, "top": 0, "bottom": rows}
        # x and y of the leaf; its cell; which face is up; how often it was mirrored each way.
        self.leaves = [{"x": x, "y": y, "cell": (y + 1, x + 1), "front_up": True, "swaps": 0, "turns": 0}
                       for y in range(rows) for x in range(columns)]

    def fold(self, edge, many, way):
        """Folds so many lines of cells at an edge about the line behind them."""
        line = self.bounds[edge] + (many if edge in ("left", "top") else -many)
        axis = "x" if edge in ("left", "right") else "y"
        is_low = edge in ("left", "top")
        moved = [leaf for leaf in self.leaves if (leaf[axis] < line) == is_low]
        still = [leaf for leaf in self.leaves if (leaf[axis] < line) != is_low]
        for leaf in moved:
            leaf[axis] = 2 * line - 1 - leaf[axis]
            leaf["front_up"] = not leaf["front_up"]
            leaf["swaps" if axis == "x" else "turns"] += 1
        moved.reverse()
        self.leaves = moved + still if way == "over" else still + moved
        self.bounds[edge] = line

    def size(self):
        return (self.bounds["bottom"] - self.bounds["top"], self.bounds["right"] - self.bounds["left"])

    def at(self, row, column):
        """The leaves at a place, as the document tells them."""
        y, x = self.bounds["top"] + row - 1, self.bounds["left"] + column - 1
        return [leaf["cell"] + (leaf["swaps"] % 2 == 1, leaf["turns"] % 2 == 1)
                for leaf in self.leaves if (leaf["y"], leaf["x"]) == (y, x)]

    def everywhere(self):
        rows, columns = self.size()
        return [[self.at(row + 1, column + 1) for column in range(columns)] for row in range(rows)]


def folded(rows, columns, folds):
    """The paper with all the folds done."""
    paper = Paper(rows, columns)
    for fold in folds:
        paper.fold(*fold)
    return paper


def pages_read(rows, columns, folds, front, back):
    """The faces of a printed and folded sheet, from above downwards: each with whether its head is to the foot."""
    read = []
    for leaf in folded(rows, columns, folds).leaves:
        row, column = leaf["cell"]
        # The back is printed as it is seen when the sheet is turned about an upright line.
        faces = [front[row - 1][column - 1], back[row - 1][columns - column]]
        if not leaf["front_up"]:
            faces.reverse()
        for page, is_turned in faces:
            read.append((page, page != 0 and is_turned != (leaf["turns"] % 2 == 1)))
    return read


def seen_spreads(front, back):
    """The pairs of pages that are seen side by side, the even one at the left, when their heads are up."""
    found = []
    for row in front + back:
        for one, other in zip(row, row[1:]):
            left, right = (other, one) if one[1] else (one, other)
            if one[1] == other[1] and left[0] % 2 == 0 and right[0] == left[0] + 1:
                found.append((left[0], right[0]))
    return sorted(found)


def told_parts(parts):
    """The parts of a book with what their schemes tell, to compare them."""
    return [(scheme.told(), how) for scheme, how in parts]


def first_folds(rows, columns):
    """All folds that can be done first, each with the size that it leaves."""
    found = []
    for edge in EDGES:
        for many in range(1, 9):
            left = (rows, columns - many) if edge in ("left", "right") else (rows - many, columns)
            if 2 * many <= (columns if edge in ("left", "right") else rows):
                found += [((edge, many, way), left) for way in WAYS]
    return found


def all_folds(rows, columns):
    """The folds of all schemes of a size."""
    if (rows, columns) == (1, 1):
        return [[]]
    return [[fold] + rest for fold, left in first_folds(rows, columns) for rest in all_folds(*left)]


def some_folds(rows, columns, many):
    """The folds of so many schemes of a size, picked alike each time."""
    picker = random.Random(rows * 100 + columns)
    found = []
    for _ in range(many):
        folds, left = [], (rows, columns)
        while left != (1, 1):
            fold, left = picker.choice(first_folds(*left))
            folds.append(fold)
        found.append(folds)
    return found


def many_schemes():
    """Sizes and folds: all of the small sizes, some of greater ones."""
    found = [(rows, columns, folds) for rows, columns in SMALL_SIZES for folds in all_folds(rows, columns)]
    return found + [(rows, columns, folds) for rows, columns in GREAT_SIZES for folds in some_folds(rows, columns, 12)]


def with_row(rows, at, row):
    """The text of the rows with another one at that number."""
    return "\n".join(rows[:at - 1] + [row] + rows[at:])


def with_word(rows, at, number, word):
    """The text of the rows with another word in one of them."""
    words = rows[at - 1].split(" ")
    words[number - 1] = word
    return with_row(rows, at, " ".join(words))


def row_refused(case, read, text):
    """The row and the word of the refusal of a text; the test fails where there is none."""
    with case.assertRaises(BadRow, msg=repr(text)) as caught:
        read(text)
    case.assertEqual((type(caught.exception.row), type(caught.exception.word)), (int, int))
    return (caught.exception.row, caught.exception.word)


def change_deeply(thing):
    """Changes each list in what was told, at any depth."""
    if isinstance(thing, (list, tuple)):
        for part in thing:
            change_deeply(part)
    if isinstance(thing, list):
        thing.reverse()
        thing.append("changed")
