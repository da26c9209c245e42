"""The errors that the program raises."""


class WeaveError(ValueError):
    """The base class of all errors of the program; it is not raised itself."""


class ClothError(WeaveError):
    """A value is not a cloth."""

    def __init__(self, reason):
        self.reason = reason


class DraftError(WeaveError):
    """A value is not a draft."""

    def __init__(self, reason):
        self.reason = reason


class ArgumentError(WeaveError):
    """Another argument of a function is not what the function wants."""

    def __init__(self, reason):
        self.reason = reason


class PaperError(WeaveError):
    """An answer that was told is not a right one."""

    def __init__(self, reason):
        self.reason = reason


class LoomError(WeaveError):
    """A loom cannot do a deed."""

    def __init__(self, reason):
        self.reason = reason


class TooMany(WeaveError):
    """There is more of something than a limit lets there be."""

    def __init__(self, reason):
        self.reason = reason


class TextError(WeaveError):
    """A text cannot be read on from the character with an index."""

    def __init__(self, at):
        self.at = at


class LogError(WeaveError):
    """The entry of a log with a number cannot be done."""

    def __init__(self, number, reason):
        self.number = number
        self.reason = reason


class CommandError(WeaveError):
    """A line is no command of a session."""

    def __init__(self, line):
        self.line = line
