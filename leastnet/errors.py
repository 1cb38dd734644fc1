"""The errors of the package."""


class NetError(ValueError):
    """An argument that is not what it must be; takes a message."""


class InvalidAlphabet(NetError):
    """Not an alphabet."""


class InvalidWord(NetError):
    """Not a word, or not a run."""


class InvalidVector(NetError):
    """Not a vector, or one of another length."""


class InvalidPlace(NetError):
    """Not a place."""


class InvalidNet(NetError):
    """Not a net."""


class InvalidBehaviour(NetError):
    """Not a behaviour."""


class InvalidPoints(NetError):
    """Not points, rays or rows."""


class InvalidFraction(NetError):
    """Not a fraction."""


class InvalidOperation(NetError):
    """Values that cannot be used together in this way."""


class InvalidEdit(NetError):
    """Not an edit of a learner."""


class ParseError(NetError):
    """A text that cannot be read."""


class InvalidCommand(NetError):
    """Not a command of a shell."""


class InvalidNumber(IndexError):
    """A number that is none, or out of its range."""

    def __init__(self, value):
        self.value = value


class UnknownName(KeyError):
    """A name that is not there."""

    def __init__(self, name):
        self.name = name


class TooMany(OverflowError):
    """More than the limit."""

    def __init__(self, limit):
        self.limit = limit


class Avoidable(ArithmeticError):
    """A word is not allowed; the place shows it."""

    def __init__(self, place):
        self.place = place


class NothingToUndo(LookupError):
    """Fewer groups than were to be undone or made again."""

    def __init__(self, many):
        self.many = many
