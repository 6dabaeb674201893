"""The errors of the package.

No message shows the value of its error: a text of the value could fail, as
that of an integer with thousands of digits.
"""


class ShellError(ValueError):
    """Every error of the package is one of these."""


class InvalidProgram(ShellError):
    """A value is not a program; `path` tells where."""

    def __init__(self, path):
        super().__init__("not a program as described")
        self.path = path


class InvalidText(ShellError):
    """A value is not the text of a program; `place` is the number of a word."""

    def __init__(self, place):
        super().__init__("not the text of a program")
        self.place = place


class InvalidRow(ShellError):
    """A value is not a row; `index` is that of an entry, or -1."""

    def __init__(self, index):
        super().__init__("not a row of statuses")
        self.index = index


class InvalidName(ShellError):
    """The value `name` is none of the names that may stand there."""

    def __init__(self, name):
        super().__init__("not a name that may stand here")
        self.name = name


class InvalidPath(ShellError):
    """The value `path` is not the path of a tree of the right sort."""

    def __init__(self, path):
        super().__init__("not the path of such a tree")
        self.path = path


class InvalidNumber(ShellError):
    """The argument called `name` is not a number that may stand there."""

    def __init__(self, name):
        super().__init__("not a number that may stand here")
        self.name = name


class InvalidMachine(ShellError):
    """A value is not the machine of the program; `index` is that of an entry, or -1."""

    def __init__(self, index):
        super().__init__("not the machine of the program")
        self.index = index


class InvalidPaper(ShellError):
    """A value is not a paper; `index` tells where."""

    def __init__(self, index):
        super().__init__("not a paper as described")
        self.index = index


class InvalidChances(ShellError):
    """A value does not hold chances as described; `name` is a command, or None."""

    def __init__(self, name):
        super().__init__("not chances as described")
        self.name = name


class InvalidLog(ShellError):
    """A value is not a log; `index` is that of a line, or -1."""

    def __init__(self, index):
        super().__init__("not a log as described")
        self.index = index


class Mismatch(ShellError):
    """The argument called `name` does not suit the function."""

    def __init__(self, name):
        super().__init__("an argument that does not suit")
        self.name = name


class Ended(ShellError):
    """Nothing is asked for any more; `status` is the end status, or None."""

    def __init__(self, status):
        super().__init__("nothing is asked for any more")
        self.status = status


class TooLarge(ShellError):
    """Something is larger than `limit`."""

    def __init__(self, limit):
        super().__init__("larger than the limit")
        self.limit = limit
