"""The errors of the package. Each keeps what it was made with, itself."""


class MarkError(ValueError):
    """What is passed is not as it must be."""


class InvalidRow(MarkError):
    """The argument of a row with this name is wrong."""

    def __init__(self, word):
        self.word = word


class InvalidTool(MarkError):
    """The argument of a tool with this name is wrong, or its rows do not go with its marks."""

    def __init__(self, word):
        self.word = word


class InvalidText(MarkError):
    """The line or word with this number cannot stand at its place."""

    def __init__(self, at):
        self.at = at


class InvalidEdition(MarkError):
    """The thing with this number is no row of an edition."""

    def __init__(self, at):
        self.at = at


class InvalidStory(MarkError):
    """The thing with this number is no event, or not possible."""

    def __init__(self, at):
        self.at = at


class InvalidFault(MarkError):
    """This is no fault."""


class InvalidCommand(MarkError):
    """This is no command."""


class Refused(MarkError):
    """None of several events was done, because of the one with this index."""

    def __init__(self, at):
        self.at = at


class NoRow(IndexError):
    """There is no row with this number."""

    def __init__(self, at):
        self.at = at


class NoEvent(IndexError):
    """There is no event with this number."""

    def __init__(self, at):
        self.at = at


class NoMark(KeyError):
    """There is no mark with this name."""

    def __init__(self, name):
        self.name = name
