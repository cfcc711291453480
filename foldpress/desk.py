"""A desk: it answers lines about a book, and changes it by them."""

from foldpress.book import HOWS, creep_of, page_at, spreads_whole
from foldpress.booktext import read_book
from foldpress.cutting import can_be_sewn, closed_edges, groups_after
from foldpress.errors import OutOfPlace, PressError
from foldpress.hand import Hand
from foldpress.plan import plan_for
from foldpress.sheettext import sheet_text
from foldpress.words import is_among, number_of, words_of

THICKNESS = (1, 10)


def _pages_told(hand, press):
    """How many pages the book has."""
    return str(hand.book().told()[0])


def _parts_told(hand, press):
    """How many parts the book has."""
    return str(len(hand.book().told()[1]))


def _page_told(hand, press, page):
    """Where a page stands."""
    part, row, column, side, is_turned = page_at(hand.book(), page)
    head = "foot" if is_turned else "head"
    return f"part {part} row {row} column {column} {side} {head}"


def _sheet_told(hand, press, part):
    """The text of a part's sheet."""
    return " / ".join(sheet_text(hand.book().part_sheet(part)).split("\n"))


def _spreads_told(hand, press):
    """The whole spreads of the book."""
    return _listed([f"{even}-{odd}" for even, odd in spreads_whole(hand.book())])


def _creep_told(hand, press, page):
    """How far a page creeps."""
    book = hand.book()
    if not is_among(page, 1, book.told()[0]):
        raise OutOfPlace("the book has no such page")
    top, bottom = creep_of(book, THICKNESS)[page - 1]
    return f"{top}/{bottom}"


def _plan_told(hand, press, pages):
    """The plan of all schemes."""
    return _listed(plan_for(press, pages))


def _sewn_told(hand, press, scheme):
    """Whether a scheme can be sewn."""
    return "yes" if can_be_sewn(scheme) else "no"


def _closed_told(hand, press, scheme):
    """The closed edges of a scheme."""
    return _listed(closed_edges(scheme))


def _cut_told(hand, press, scheme, *cuts):
    """How many groups of cells hang together behind some cuts."""
    return str(len(groups_after(scheme, list(cuts))))


def _pages_set(hand, press, pages):
    """Gives the book so many pages."""
    return _listed(hand.set_pages(pages))


def _part_changed(hand, press, part, scheme, how):
    """Changes a part."""
    return _listed(hand.change_part(part, scheme, how))


def _part_put(hand, press, part, scheme, how):
    """Puts a new part into the book."""
    return _listed(hand.put_part(part, scheme, how))


def _part_taken(hand, press, part):
    """Takes a part out of the book."""
    return _listed(hand.take_part(part))


def _deed_undone(hand, press):
    """Takes the last deed back."""
    return _listed(hand.undo())


def _listed(things):
    """The things with blanks between, or the word for none."""
    return " ".join([str(thing) for thing in things]) if things else "none"


ANSWERS = {
    "pages": _pages_told,
    "parts": _parts_told,
    "page": _page_told,
    "sheet": _sheet_told,
    "whole": _spreads_told,
    "creep": _creep_told,
    "plan": _plan_told,
    "sewn": _sewn_told,
    "closed": _closed_told,
    "cut": _cut_told,
    "set": _pages_set,
    "change": _part_changed,
    "put": _part_put,
    "take": _part_taken,
    "undo": _deed_undone,
}
# What the words behind the first one are; "cut" has any number of edges behind these.
KINDS = {
    "pages": (),
    "parts": (),
    "page": ("number",),
    "sheet": ("number",),
    "whole": (),
    "creep": ("number",),
    "plan": ("number",),
    "sewn": ("name",),
    "closed": ("name",),
    "cut": ("name",),
    "set": ("number",),
    "change": ("number", "name", "how"),
    "put": ("number", "name", "how"),
    "take": ("number",),
    "undo": (),
}


class Desk:
    """A desk with the book and the named schemes of a text."""

    def __init__(self, text):
        names, book = read_book(text)
        self._hand = Hand(book)
        self._schemes = dict(names)

    def say(self, line):
        """The answer to a line; of anything."""
        words = _words_of_line(line)
        things = _things_told(words, self._schemes)
        if things is None:
            return "no line"
        answer = ANSWERS[words[0]]
        hand = self._hand
        press = list(self._schemes.values())
        try:
            return answer(hand, press, *things)
        except PressError:
            return "refused"


def _words_of_line(line):
    """The words of a line, or None of what is no line."""
    words = words_of(line)
    if words is None or "\n" in line or words[0] not in KINDS:
        return None
    return words


def _things_told(words, schemes):
    """What the words of a line tell behind the first one, or None where they can't stand so."""
    if words is None:
        return None
    kinds = KINDS[words[0]]
    if words[0] == "cut":
        kinds = kinds + ("edge",) * (len(words) - 2)
    if len(words) != len(kinds) + 1:
        return None
    things = [_thing_of(word, kind, schemes) for word, kind in zip(words[1:], kinds)]
    return None if None in things else things


def _thing_of(word, kind, schemes):
    """What a word of that kind tells, or None."""
    if kind == "number":
        return number_of(word)
    if kind == "name":
        return schemes.get(word)
    if kind == "how":
        return word if word in HOWS else None
    # Whether there is such an edge is for the cut to say.
    return word
