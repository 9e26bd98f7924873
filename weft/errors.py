"""The errors that the program raises."""


class WeftError(ValueError):
    """The base class of all errors of the program."""


class BadDocument(WeftError):
    """A text is no document: its first fault, line and column counted from 1."""

    def __init__(self, line, column, what):
        self.line = line
        self.column = column
        self.what = what


class NoPiece(WeftError):
    """There is no piece with the name."""

    def __init__(self, name):
        self.name = name


class Missing(WeftError):
    """The reference in the line names a piece that there is not."""

    def __init__(self, line, name):
        self.line = line
        self.name = name


class Ring(WeftError):
    """The pieces with the names refer to each other in a ring."""

    def __init__(self, names):
        self.names = names


class Taken(WeftError):
    """The name is in use already."""

    def __init__(self, name):
        self.name = name


class Unfit(WeftError):
    """The edit of the line at the index cannot be mapped."""

    def __init__(self, at, what):
        self.at = at
        self.what = what


class Apart(WeftError):
    """The line at the index says another thing than the one at the other index."""

    def __init__(self, at, other):
        self.at = at
        self.other = other


class MadeLine(WeftError):
    """The line at the index is made, and cannot be edited."""

    def __init__(self, at):
        self.at = at


class Both(WeftError):
    """Both hands give the line a fate, and the fates are unlike."""

    def __init__(self, line):
        self.line = line


class Clash(WeftError):
    """Both hands change the line at the index, and the changes are unlike."""

    def __init__(self, at):
        self.at = at


class BadPatch(WeftError):
    """A text is no patch: its first bad line, counted from 1."""

    def __init__(self, line, what):
        self.line = line
        self.what = what


class NoVersion(WeftError):
    """There is no such version."""

    def __init__(self, version):
        self.version = version


class BuildRefused(WeftError):
    """The edit of a line of one program of a build cannot be mapped."""

    def __init__(self, root, at, what, other_root, other):
        self.root = root
        self.at = at
        self.what = what
        self.other_root = other_root
        self.other = other


class NoChange(WeftError):
    """No standing change has the number."""

    def __init__(self, number):
        self.number = number


class Held(WeftError):
    """The later change `by` keeps the change with the number from being taken back."""

    def __init__(self, number, by):
        self.number = number
        self.by = by


class TooLong(WeftError):
    """A program would have more lines than a program can have."""


class BadPlace(WeftError):
    """Something cannot be done at this place."""
