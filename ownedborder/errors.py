"""The errors of the package, all direct subclasses of OwnError."""


class OwnError(ValueError):
    """The base class of all errors of the package."""


class BadProgram(OwnError):
    """A value that is no program; index is None or the number of its first bad item."""

    def __init__(self, index):
        super().__init__(f"no program, item {index}")
        self.index = index


class BadDesign(OwnError):
    """A value that is no design."""


class BadPicks(OwnError):
    """A value that is no tuple of 1 to 30 numbers 0 and 1."""


class NotMade(OwnError):
    """What is asked for does not exist for these arguments."""


class NotText(OwnError):
    """A value that is no string."""


class InvalidText(OwnError):
    """A text with a line that cannot stand there; line is its number, from 1."""

    def __init__(self, line):
        super().__init__(f"line {line} cannot stand there")
        self.line = line


class NotNow(OwnError):
    """What a desk is told cannot be done at present."""


class NothingToUndo(OwnError):
    """A desk has no change that could be taken back."""
