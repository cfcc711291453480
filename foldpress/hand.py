"""A hand: it changes a book deed by deed, takes deeds back, and tells which sheets are to be imposed anew."""

from foldpress.book import Book, copied_book, sheets_of
from foldpress.errors import OutOfPlace
from foldpress.words import is_among


class Hand:
    """A hand with a book of its own."""

    def __init__(self, book):
        self._book = copied_book(book)
        parts = self._book.told()[1]
        # A part keeps its mark as long as it is in the book, wherever it moves to.
        self._marks = list(range(len(parts)))
        self._next_mark = len(parts)
        # The book and the marks ahead of each deed that wasn't taken back.
        self._ahead = []

    def book(self):
        """The book as it is now."""
        return copied_book(self._book)

    def set_pages(self, pages):
        """Gives the book so many pages; of anything."""
        parts = self._book.told()[1]
        return self._do(Book(pages, parts), self._marks)

    def change_part(self, part, scheme, how):
        """Gives a part another scheme, and puts it in another way; of anything."""
        pages, parts = self._told_with(part, 0)
        parts[part - 1] = (scheme, how)
        return self._do(Book(pages, parts), self._marks)

    def put_part(self, part, scheme, how):
        """Puts a new part ahead of a part, or behind all; of anything."""
        pages, parts = self._told_with(part, 1)
        parts.insert(part - 1, (scheme, how))
        book = Book(pages, parts)
        marks = self._marks[:part - 1] + [self._next_mark] + self._marks[part - 1:]
        self._next_mark += 1
        return self._do(book, marks)

    def take_part(self, part):
        """Takes a part out of the book; of anything."""
        pages, parts = self._told_with(part, 0)
        del parts[part - 1]
        return self._do(Book(pages, parts), self._marks[:part - 1] + self._marks[part:])

    def undo(self):
        """Takes the last deed back that wasn't taken back yet."""
        if not self._ahead:
            raise OutOfPlace("there is no deed to take back")
        book, marks = self._ahead.pop()
        return self._become(book, marks)

    def _told_with(self, part, more):
        """What the book tells; the part is one of it, or one of so many more behind all."""
        pages, parts = self._book.told()
        if not is_among(part, 1, len(parts) + more):
            raise OutOfPlace("the book has no such part")
        return (pages, parts)

    def _do(self, book, marks):
        """Does a deed, which makes that book with these marks."""
        self._ahead.append((self._book, self._marks))
        return self._become(book, marks)

    def _become(self, book, marks):
        """Has that book with these marks, and tells the numbers of its sheets that are imposed anew."""
        sheets_ahead = {mark: sheet.told() for mark, sheet in zip(self._marks, sheets_of(self._book))}
        self._book = book
        self._marks = marks
        numbers = []
        for number, sheet in enumerate(sheets_of(book), start=1):
            # A part that came in had no sheet ahead.
            if sheet.told() != sheets_ahead.get(marks[number - 1]):
                numbers.append(number)
        return numbers
