"""All errors of the program, in one tree below PressError.

No message shows an integer that a caller passed: it may have more digits than Python writes out.
"""


class PressError(ValueError):
    """The base class of all errors of the program."""


class BadText(PressError):
    """An argument that must be a text, a word or a single letter is not one."""


class BadPlaces(PressError):
    """A list of positions, a single position or a stretch does not fit the text."""


class BadCount(PressError):
    """A number of repetitions is below 1."""


class TooLong(PressError):
    """A text or a press would be longer than allowed."""


class TooShort(PressError):
    """A text would have no letter left."""


class NoText(PressError):
    """The press describes no text."""


class BadPress(PressError):
    """A press does not have the right form; `index` is the number of the faulty item."""

    def __init__(self, index):
        super().__init__("an item of the press is faulty")
        self.index = index


class BadPaper(PressError):
    """A paper does not show what it must show; `index` is the number of the wrong item."""

    def __init__(self, index):
        super().__init__("an item of the paper is wrong")
        self.index = index


class BadLine(PressError):
    """A line is not the written form of what it must be; `index` is the number of the line."""

    def __init__(self, index):
        super().__init__("a line is not of the written form")
        self.index = index


class NotARoot(PressError):
    """A list of positions is not a root; `word` is a word whose occurrences avoid it."""

    def __init__(self, word):
        super().__init__("a word avoids the list of positions")
        self.word = word


class DeskError(PressError):
    """The base class of the errors of the desk alone."""


class BadName(DeskError):
    """A string is not the name of a shelf."""


class BadCommand(DeskError):
    """A command begins with no known word or has the wrong number of items."""


class Full(DeskError):
    """The presses would have more phrases than the desk has room for."""


class NothingToUndo(DeskError):
    """There is no change to take back."""


class NoShelf(DeskError):
    """There is no shelf of the name `name`."""

    def __init__(self, name):
        super().__init__("there is no shelf of this name")
        self.name = name


class BadScript(DeskError):
    """A command of a list was refused; `index` is the number of that command."""

    def __init__(self, index):
        super().__init__("a command of the list was refused")
        self.index = index
