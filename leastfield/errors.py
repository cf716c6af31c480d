"""The errors that the package raises."""


class FieldError(Exception):
    """The base of all errors of the package but NoName."""


class InvalidFraction(FieldError):
    """A value is no fraction."""

    def __init__(self, at):
        self.at = at


class InvalidPoint(FieldError):
    """A value is no point, or stands among points where it may not."""

    def __init__(self, at):
        self.at = at


class InvalidRing(FieldError):
    """A value is no ring."""

    def __init__(self, at):
        self.at = at


class InvalidPlate(FieldError):
    """A value is no plate, or rings make none."""

    def __init__(self, at):
        self.at = at


class InvalidMesh(FieldError):
    """A value is no mesh."""

    def __init__(self, at):
        self.at = at


class InvalidWorths(FieldError):
    """A value does not tell worths."""

    def __init__(self, at):
        self.at = at


class InvalidField(FieldError):
    """A value is no field."""

    def __init__(self, at):
        self.at = at


class InvalidPaper(FieldError):
    """A value is no paper."""

    def __init__(self, at):
        self.at = at


class InvalidText(FieldError):
    """A text is not that of anything that is asked for."""

    def __init__(self, at):
        self.at = at


class InvalidSize(FieldError):
    """What the word names is not as it should be."""

    def __init__(self, word):
        self.word = word


class InvalidCommand(FieldError):
    """A line tells nothing to do."""


class Refused(FieldError):
    """What is asked for cannot be had, for the reason that the word names."""

    def __init__(self, word):
        self.word = word


class NoName(KeyError):
    """Nothing has this name."""

    def __init__(self, name):
        self.name = name
