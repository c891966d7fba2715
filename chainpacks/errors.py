"""The errors of the package, each one with what it keeps."""


class PackError(ValueError):
    """A value of a wrong form; it takes a message."""


class InvalidSizes(PackError):
    """No sizes."""


class InvalidLot(PackError):
    """No lot, or no goods."""


class InvalidStore(PackError):
    """No store."""


class InvalidPacking(PackError):
    """No packing, or no filling."""


class InvalidPaper(PackError):
    """No paper."""


class InvalidOperation(PackError):
    """Something that cannot be done with these values."""


class ParseError(PackError):
    """A text that cannot be read, with the index of the line, or None."""

    def __init__(self, line):
        self.line = line


class UnknownName(KeyError):
    """A word that names nothing."""

    def __init__(self, word):
        self.word = word


class NoRoom(LookupError):
    """Things of this size find no room."""

    def __init__(self, size):
        self.size = size


class InvalidNumber(IndexError):
    """A value that is not one of the numbers that are asked for."""

    def __init__(self, value):
        self.value = value


class NothingToUndo(RuntimeError):
    """There are fewer than so many changes to take back."""

    def __init__(self, many):
        self.many = many


class TooMany(OverflowError):
    """More than this limit."""

    def __init__(self, limit):
        self.limit = limit


class NoChain(ArithmeticError):
    """Sizes that are no chain, with their gap."""

    def __init__(self, gap):
        self.gap = gap
