"""All errors of the package. The fields are kept as they are given, whatever they are."""


class RebuiltError(ValueError):
    """The base class of all errors of the package."""


class PaperError(RebuiltError):
    """The family of the errors of checkers."""


class BookError(RebuiltError):
    """The family of the errors of what is done with books."""


class WatchError(RebuiltError):
    """The family of the errors of watches."""


class TextError(RebuiltError):
    """The family of the errors of what is read."""


class InvalidPaper(PaperError):
    """A checker does not accept a thing: the word says why, at says where."""

    def __init__(self, word, at):
        self.word = word
        self.at = at


class NotUsable(BookError):
    """An argument cannot be used: the word names it or says why, at says where."""

    def __init__(self, word, at):
        self.word = word
        self.at = at


class NotCalm(BookError):
    """The book is not calm: the steps show a clash."""

    def __init__(self, steps):
        self.steps = steps


class InvalidEvent(WatchError):
    """An event is not possible."""

    def __init__(self, event, reason):
        self.event = event
        self.reason = reason


class NothingToUndo(WatchError):
    """There is no event left to take back."""

    def __init__(self, steps):
        self.steps = steps


class InvalidText(TextError):
    """A line is not possible: the field is the index of its first word that cannot stand."""

    def __init__(self, line, field):
        self.line = line
        self.field = field


class InvalidRow(TextError):
    """A row is not possible."""

    def __init__(self, row):
        self.row = row
