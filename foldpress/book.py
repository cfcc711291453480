"""Books: parts that are gathered or put into one another, where their pages stand, and how far these creep."""

from math import gcd

from foldpress.cutting import can_be_sewn
from foldpress.errors import BadBook, OutOfPlace
from foldpress.imposing import imposed
from foldpress.scheme import Scheme, cells_of, copied_scheme
from foldpress.section import is_whole_pair, page_places
from foldpress.sheet import MOST_PAGE
from foldpress.words import is_among, is_word_of

HOWS = ("behind", "within")
MOST_PARTS = 1000
MOST_THICKNESS = 10 ** 9


class Book:
    """So many pages on the sheets of some parts."""

    def __init__(self, pages, parts):
        if not is_among(pages, 1, MOST_PAGE) or not _are_parts(parts):
            raise BadBook("no book has such pages or such parts")
        self._pages = pages
        self._parts = tuple([(copied_scheme(scheme), how) for scheme, how in parts])
        self._nests = _nests_of(self._parts)
        if not all([_can_be_nest(self._parts, nest) for nest in self._nests]):
            raise BadBook("a part of a nest can't be sewn")
        # Each leaf, from the first page on: its nest, its number there, its part, its number in that one's section.
        self._leaves = _leaves_of(self._parts, self._nests)
        if not 2 * _leaves_ahead(self._leaves) < pages <= 2 * len(self._leaves):
            raise BadBook("there are too few places, or too many")
        self._borne = _pages_borne(pages, self._leaves, len(parts))

    def told(self):
        """The pages and a list of the parts."""
        return (self._pages, [(copied_scheme(scheme), how) for scheme, how in self._parts])

    def many_places(self):
        """How many places the book has."""
        return 2 * len(self._leaves)

    def nest_parts(self):
        """The numbers of the parts of each nest."""
        return [list(nest) for nest in self._nests]

    def part_pages(self, part):
        """What the places of a part's section bear, in their order; of anything."""
        if not is_among(part, 1, len(self._parts)):
            raise OutOfPlace("the book has no such part")
        return list(self._borne[part - 1])

    def part_sheet(self, part):
        """The sheet of a part; of anything."""
        pages = self.part_pages(part)
        return imposed(self._parts[part - 1][0], pages)

    def leaf_at(self, page):
        """The leaf of a page: its nest, its number there, its part, its number in that one's section; of anything."""
        if not is_among(page, 1, self._pages):
            raise OutOfPlace("the book has no such page")
        return self._leaves[(page - 1) // 2]

    def place_at(self, page):
        """The part of a page, and the four things that tell its place on the sheet; of anything."""
        part, leaf = self.leaf_at(page)[2:]
        places = page_places(self._parts[part - 1][0])
        # Odd pages are on the upper faces.
        row, column, side, is_turned = places[2 * leaf - 1 - page % 2]
        return (part, row, column, side, is_turned)


def copied_book(book):
    """Another book alike."""
    pages, parts = book.told()
    return Book(pages, parts)


def sheets_of(book):
    """The sheets of a book, part by part."""
    parts = book.told()[1]
    return [book.part_sheet(part) for part in range(1, len(parts) + 1)]


def page_at(book, page):
    """Where a page stands: its part, and its place on that one's sheet; the page is of anything."""
    return book.place_at(page)


def leaf_of(book, page):
    """The nest of a page, and the number of its leaf there; the page is of anything."""
    return book.leaf_at(page)[:2]


def creep_of(book, thickness):
    """How far each page creeps, in lowest terms; the thickness is of anything."""
    if not _is_thickness(thickness):
        raise BadBook("no sheet is so thick")
    top, bottom = thickness
    pages, parts = book.told()
    sizes = [sum([cells_of(parts[number - 1][0]) for number in numbers]) for numbers in book.nest_parts()]
    creeps = []
    for page in range(1, pages + 1):
        nest, leaf = leaf_of(book, page)
        shift = top * min(leaf - 1, sizes[nest - 1] - leaf)
        shared = gcd(shift, bottom)
        creeps.append((shift // shared, bottom // shared))
    return creeps


def spreads_whole(book):
    """The pairs of pages of a book that stand side by side on one sheet, as they are read."""
    pages = book.told()[0]
    places = [page_at(book, page) for page in range(1, pages + 1)]
    return [(even, even + 1) for even in range(2, pages, 2) if _is_whole(places[even - 1], places[even])]


def _is_whole(even, odd):
    """Whether an even page that stands at a place of a part, and the next one, are a whole pair."""
    return even[0] == odd[0] and is_whole_pair(even[1:], odd[1:])


def _is_thickness(thing):
    """Whether the thing is the thickness of a sheet."""
    if not isinstance(thing, tuple) or len(thing) != 2:
        return False
    top, bottom = thing
    return is_among(top, 0, MOST_THICKNESS) and is_among(bottom, 1, MOST_THICKNESS)


def _are_parts(thing):
    """Whether the thing has the form of the parts of a book."""
    if not isinstance(thing, list) or not 1 <= len(thing) <= MOST_PARTS:
        return False
    return all([_is_part(part) for part in thing]) and thing[0][1] == "behind"


def _is_part(thing):
    """Whether the thing has the form of a part: a scheme, and how it is put."""
    return isinstance(thing, tuple) and len(thing) == 2 and isinstance(thing[0], Scheme) and is_word_of(thing[1], HOWS)


def _nests_of(parts):
    """The numbers of the parts of each nest."""
    nests = []
    for number, (_, how) in enumerate(parts, start=1):
        if how == "behind":
            nests.append([])
        nests[-1].append(number)
    return nests


def _can_be_nest(parts, numbers):
    """Whether the parts with these numbers can be put into one another."""
    return len(numbers) == 1 or all([can_be_sewn(parts[number - 1][0]) for number in numbers])


def _leaves_of(parts, nests):
    """Each leaf of the nests: its nest, its number there, its part, its number in that one's section."""
    leaves = []
    for nest, numbers in enumerate(nests, start=1):
        for number, (part, leaf) in enumerate(_nest_leaves(parts, numbers), start=1):
            leaves.append((nest, number, part, leaf))
    return leaves


def _nest_leaves(parts, numbers):
    """The leaves of the nest of the parts with these numbers: the part of each, its number in that one's section."""
    leaves = []
    for part in numbers:
        middle = len(leaves) // 2
        many = cells_of(parts[part - 1][0])
        leaves[middle:middle] = [(part, leaf) for leaf in range(1, many + 1)]
    return leaves


def _leaves_ahead(leaves):
    """How many of the leaves are ahead of the last nest."""
    last_nest = leaves[-1][0]
    return len([leaf for leaf in leaves if leaf[0] < last_nest])


def _pages_borne(pages, leaves, many_parts):
    """What the places of each part bear, in the order of its section."""
    borne = [[] for _ in range(many_parts)]
    for number, leaf in enumerate(leaves, start=1):
        for place in (2 * number - 1, 2 * number):
            borne[leaf[2] - 1].append(place if place <= pages else 0)
    return borne
