"""The texts of printed sheets, written and read."""

from foldpress.errors import BadRow
from foldpress.scheme import MOST_LINES, is_size
from foldpress.sheet import MOST_PAGE, Sheet
from foldpress.textrows import rows_of, words_at
from foldpress.words import is_among, number_of

BLANK = "."
TURNED = "'"
BACK = "back"


def sheet_text(sheet):
    """The text of a sheet."""
    front, back = sheet.told()
    return "\n".join([_row_of(row) for row in front] + [BACK] + [_row_of(row) for row in back])


def read_sheet(text):
    """The sheet of a text; of anything."""
    rows = rows_of(text)
    front = _read_front(rows)
    return Sheet(front, _read_back(rows, front))


def _row_of(faces):
    """The row of a text for a row of a side."""
    return " ".join([_word_of(page, is_turned) for page, is_turned in faces])


def _word_of(page, is_turned):
    """The word for a page, or for a blank."""
    if page == 0:
        return BLANK
    return f"{page}{TURNED}" if is_turned else str(page)


def _read_front(rows):
    """The rows of the front: those ahead of the row "back"."""
    front = []
    for at, row in enumerate(rows, start=1):
        words = words_at(row, at)
        # Ahead of any other row "back" has nothing to end: it is refused as the page that it isn't.
        if front and words == [BACK]:
            return front
        least, most = (len(front[0]), len(front[0])) if front else (1, MOST_LINES)
        front.append(_read_faces(words, at, least, most))
        if not is_size(len(front), len(front[0])):
            raise BadRow(at, 0)
    raise BadRow(len(rows) + 1, 1)


def _read_back(rows, front):
    """The rows of the back: as many behind the row "back" as there are of the front, and all that there are."""
    back = []
    ahead = len(front) + 1
    width = len(front[0])
    for at, row in enumerate(rows[ahead:], start=ahead + 1):
        if len(back) == len(front):
            raise BadRow(at, 0)
        back.append(_read_faces(words_at(row, at), at, width, width))
    if len(back) < len(front):
        raise BadRow(len(rows) + 1, 1)
    return back


def _read_faces(words, at, least, most):
    """The faces that are told by the words of the row with that number, from the least to the most of them."""
    faces = []
    for number, word in enumerate(words, start=1):
        face = _read_face(word)
        if number > most or face is None:
            raise BadRow(at, number)
        faces.append(face)
    if len(words) < least:
        raise BadRow(at, len(words) + 1)
    return faces


def _read_face(word):
    """The page of a word and whether it is turned, or None of a word that tells none."""
    if word == BLANK:
        return (0, False)
    is_turned = word.endswith(TURNED)
    page = number_of(word[:-1] if is_turned else word)
    if not is_among(page, 1, MOST_PAGE):
        return None
    return (page, is_turned)
