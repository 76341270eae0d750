"""All errors: the base class, the families, and each error with its fields."""


class ReckonError(ValueError):
    """The base class of all errors of the package."""


class PaperError(ReckonError):
    """The family of papers that are refused."""


class GroundError(ReckonError):
    """The family of what cannot be used, does not fit or is divided."""


class ReadError(ReckonError):
    """The family of pieces that cannot be read."""


class LiveError(ReckonError):
    """The family of what live houses refuse."""


class TextError(ReckonError):
    """The family of lines and rows that cannot be read."""


class InvalidPaper(PaperError):
    """A checker refuses a thing: the word of the first entry that applies, and where."""

    def __init__(self, word, at):
        self.word = word
        self.at = at


class NotUsable(GroundError):
    """A parameter is not as stated: its name, and -1."""

    def __init__(self, word, at):
        self.word = word
        self.at = at


class Unfit(GroundError):
    """A table does not fit: a parting that is no seam."""

    def __init__(self, lot):
        self.lot = lot


class Divided(GroundError):
    """A feared lot divides two houses: this lot."""

    def __init__(self, lot):
        self.lot = lot


class Unread(ReadError):
    """No bit, or each one, can be what a piece is: the index of the piece."""

    def __init__(self, piece):
        self.piece = piece


class Noticed(ReadError):
    """Not all say the same of a piece: the index of the piece."""

    def __init__(self, piece):
        self.piece = piece


class InvalidEvent(LiveError):
    """An event is refused: the event as handed in, and the reason."""

    def __init__(self, event, reason):
        self.event = event
        self.reason = reason


class NothingToUndo(LiveError):
    """There are not so many events to take back: how many were asked for."""

    def __init__(self, steps):
        self.steps = steps


class InvalidText(TextError):
    """A line cannot be read: the index of the line, and that of the word."""

    def __init__(self, line, field):
        self.line = line
        self.field = field


class InvalidRow(TextError):
    """A desk cannot read a row, or cannot answer it: the row."""

    def __init__(self, row):
        self.row = row
