"""The errors of the program."""


class CoverError(Exception):
    """The base class of all errors of the program."""


class InvalidCube(CoverError):
    """The argument at the position at is not a cube of the size that is due."""

    def __init__(self, at):
        self.at = at


class InvalidPoint(CoverError):
    """The argument or item at the position at is not a point of the size that is due."""

    def __init__(self, at):
        self.at = at


class InvalidTable(CoverError):
    """A table cannot be made; why is "kind", "length", "sign", "inputs" or "both"."""

    def __init__(self, why):
        self.why = why


class InvalidChange(CoverError):
    """The change at the position at is wrong; -1 means the argument itself."""

    def __init__(self, at):
        self.at = at


class InvalidCover(CoverError):
    """The product at the position at is wrong; a number below 0 means the whole cover."""

    def __init__(self, at):
        self.at = at


class InvalidOrder(CoverError):
    """The wire at the position at of an order is wrong; -1 means the order itself."""

    def __init__(self, at):
        self.at = at


class InvalidWord(CoverError):
    """A text is not a word."""


class InvalidTree(CoverError):
    """The node at this path is the first that is wrong."""

    def __init__(self, path):
        self.path = path


class InvalidPlay(CoverError):
    """The play of the node at this path is the first that is wrong."""

    def __init__(self, path):
        self.path = path


class InvalidText(CoverError):
    """A text is wrong at this line or, for the text of a tree, at this character."""

    def __init__(self, line):
        self.line = line


class InvalidName(CoverError):
    """A desk cannot give this name to a change."""

    def __init__(self, name):
        self.name = name


class LimitExceeded(CoverError):
    """Something is larger than this limit allows."""

    def __init__(self, limit):
        self.limit = limit


class UnknownName(CoverError):
    """No change of a desk has this name."""

    def __init__(self, name):
        self.name = name


class NothingLeft(CoverError):
    """There is nothing of the kind that this word tells."""

    def __init__(self, word):
        self.word = word
