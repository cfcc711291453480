"""The refusals of Foldpress."""


class PressError(ValueError):
    """Any refusal."""


class BadRow(PressError):
    """A text is refused: its first row that can't stand, and in it the first word, both from 1."""

    def __init__(self, row, word):
        PressError.__init__(self, f"row {row}, word {word} can't stand there")
        self.row = row
        self.word = word


class BadScheme(PressError):
    """A scheme is refused: the number of the first fold that can't be, or 0 of what stands ahead of the folds."""

    def __init__(self, at):
        PressError.__init__(self, f"no scheme: refused at {at}")
        self.at = at


class BadSheet(PressError):
    """A sheet is refused."""


class BadBook(PressError):
    """A book, or what a book is made of, is refused."""


class TooGreat(PressError):
    """What is asked for would be too great."""


class OutOfPlace(PressError):
    """What is asked for isn't there."""
