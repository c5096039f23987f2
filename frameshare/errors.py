"""The refusals: each class stands straight under FrameError, none under another one's."""


class FrameError(ValueError):
    """Over all refusals of the package."""


class BadRow(FrameError):
    """A row of a text that isn't written as told or can't stand there; its number is the field row."""

    def __init__(self, row):
        self.row = row


class BadWord(FrameError):
    """A word that names no rule."""


class TooMany(FrameError):
    """More things than are looked at."""


class NoThing(FrameError):
    """A thing that isn't there."""


class Given(FrameError):
    """A thing that is handed out."""


class NotGiven(FrameError):
    """A thing that isn't handed out."""


class NoProgram(FrameError):
    """A text of no right program."""
