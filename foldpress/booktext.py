"""The texts of books, written and read."""

from foldpress.book import HOWS, MOST_PARTS, Book
from foldpress.errors import BadRow
from foldpress.scheme import Scheme, scheme_key
from foldpress.schemetext import read_fold, read_size, scheme_rows
from foldpress.sheet import MOST_PAGE
from foldpress.textrows import rows_of, words_among, words_at
from foldpress.words import is_among, is_name, number_of

MOST_NAMES = 8
# With which words a row can begin, by the one with which the row ahead of it does; "" is ahead of the first row.
WORDS_BEHIND = {
    "": ("scheme",),
    "scheme": ("sheet",),
    "sheet": ("fold", "scheme", "pages"),
    "fold": ("fold", "scheme", "pages"),
    "pages": ("part",),
    "part": ("part",),
}


class Draft:
    """What the rows of a book's text have told by now."""

    def __init__(self):
        self._word_ahead = ""
        self._names = []
        self._sizes = []
        self._folds = []
        self._pages = 0
        self._parts = []

    def take_row(self, row, at):
        """Takes the row with that number."""
        if len(self._parts) == MOST_PARTS:
            raise BadRow(at, 0)
        words = words_at(row, at)
        if not self._can_begin_with(words[0]):
            raise BadRow(at, 1)
        self._take_words(words, at)
        self._word_ahead = words[0]

    def is_whole_text(self):
        """Whether the text can end here."""
        return len(self._parts) > 0

    def made(self):
        """The named schemes, and the book."""
        names = [
            (name, Scheme(size[0], size[1], folds))
            for name, size, folds in zip(self._names, self._sizes, self._folds)
        ]
        schemes = dict(names)
        return (names, Book(self._pages, [(schemes[name], how) for name, how in self._parts]))

    def _can_begin_with(self, word):
        """Whether the next row can begin with that word."""
        if word == "scheme" and len(self._names) == MOST_NAMES:
            return False
        return word in WORDS_BEHIND[self._word_ahead]

    def _take_words(self, words, at):
        """Takes the words of a row that begins as it can."""
        if words[0] == "scheme":
            new_names = [word for word in words if is_name(word) and word not in self._names]
            self._names.append(words_among(words, at, (("scheme",), new_names))[1])
        elif words[0] == "sheet":
            self._sizes.append(read_size(words, at))
            self._folds.append([])
        elif words[0] == "fold":
            self._folds[-1].append(read_fold(words, at))
        elif words[0] == "pages":
            counts = [word for word in words if is_among(number_of(word), 1, MOST_PAGE)]
            self._pages = number_of(words_among(words, at, (("pages",), counts))[1])
        else:
            words_among(words, at, (("part",), self._names, HOWS))
            self._parts.append((words[1], words[2]))


def book_text(names, book):
    """The text of a book, with the schemes by their names."""
    pages, parts = book.told()
    rows = []
    names_by_scheme = {}
    for name, scheme in names:
        rows.extend([f"scheme {name}"] + scheme_rows(scheme))
        names_by_scheme.setdefault(scheme_key(scheme), name)
    rows.append(f"pages {pages}")
    rows.extend([f"part {names_by_scheme[scheme_key(scheme)]} {how}" for scheme, how in parts])
    return "\n".join(rows)


def read_book(text):
    """The named schemes and the book of a text; of anything."""
    rows = rows_of(text)
    draft = Draft()
    for at, row in enumerate(rows, start=1):
        draft.take_row(row, at)
    if not draft.is_whole_text():
        raise BadRow(len(rows) + 1, 1)
    return draft.made()
