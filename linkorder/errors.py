"""The errors of the package, one class for each kind of failure."""


class LinkError(ValueError):
    """What every error of the package is."""


class InvalidLibrary(LinkError):
    """The value is not the archives of a library."""

    def __init__(self, value):
        self.value = value


class InvalidMember(LinkError):
    """The value is not a member."""

    def __init__(self, value):
        self.value = value


class InvalidName(LinkError):
    """The value is not a name."""

    def __init__(self, value):
        self.value = value


class UnknownName(LinkError):
    """The value names nothing that is there."""

    def __init__(self, value):
        self.value = value


class InvalidProgram(LinkError):
    """The value is not a program."""

    def __init__(self, value):
        self.value = value


class InvalidPrograms(LinkError):
    """The value is not a tuple of 1 to 4 programs."""

    def __init__(self, value):
        self.value = value


class InvalidLine(LinkError):
    """The value is not a line that is allowed here."""

    def __init__(self, value):
        self.value = value


class InvalidChain(LinkError):
    """The value is not a chain of the library."""

    def __init__(self, value):
        self.value = value


class InvalidNumber(LinkError):
    """The value is not the number of a line."""

    def __init__(self, value):
        self.value = value


class TooManyChains(LinkError):
    """The library has more than 1000 chains."""


class TooManyStates(LinkError):
    """More than 5000 states can be reached."""


class DoesNotServe(LinkError):
    """The line does not serve the library."""

    def __init__(self, value):
        self.value = value


class NothingToUndo(LinkError):
    """There is no edit that is not undone."""


class ParseError(LinkError):
    """The text is wrong at the row with this index."""

    def __init__(self, row):
        self.row = row


class CommandError(LinkError):
    """The command has none of the forms of a session."""

    def __init__(self, command):
        self.command = command
