"""The refusals of the hall: each stands right under HallError, none under another."""


class HallError(ValueError):
    """Any refusal."""


class NoWeb(HallError):
    """What was looked at is no web: the word says why, at which hand."""

    def __init__(self, word, at):
        self.word = word
        self.at = at


class NoText(HallError):
    """What was read is no such text: row is the first row that is none."""

    def __init__(self, row):
        self.row = row


class NoProgram(HallError):
    """What was looked at is no program: row is the first row that is wrong."""

    def __init__(self, row):
        self.row = row


class NoName(HallError):
    """Nothing is kept by this name."""

    def __init__(self, name):
        self.name = name


class NoRow(HallError):
    """What the desk was told is none of its rows."""
