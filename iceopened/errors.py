"""The refusals, point 9: each straight under IceError, its values the very things of which it was made.

What was found may be anything, so no text is made of it: the words stay the same, the values tell the rest.
"""


class IceError(ValueError):
    """Any refusal; it is made of one text, which str tells of it."""


class NoName(IceError):
    """Found is no name."""

    def __init__(self, found):
        IceError.__init__(self, "no name")
        self.found = found


class NoNumber(IceError):
    """Found is no whole number within its bounds."""

    def __init__(self, found):
        IceError.__init__(self, "no whole number within its bounds")
        self.found = found


class Doubled(IceError):
    """The name stands there twice."""

    def __init__(self, name):
        IceError.__init__(self, "a name that stands there already")
        self.name = name


class NoPort(IceError):
    """Found is no port there."""

    def __init__(self, found):
        IceError.__init__(self, "no port")
        self.found = found


class NoChannel(IceError):
    """Found is no channel, or no name of one."""

    def __init__(self, found):
        IceError.__init__(self, "no channel")
        self.found = found


class NoVessel(IceError):
    """Found is no name of a vessel of the wanted kind."""

    def __init__(self, found):
        IceError.__init__(self, "no vessel")
        self.found = found


class NoKind(IceError):
    """Found is not of the wanted kind."""

    def __init__(self, found):
        IceError.__init__(self, "not of the wanted kind")
        self.found = found


class NoHour(IceError):
    """Found is no hour within its bounds."""

    def __init__(self, found):
        IceError.__init__(self, "no hour within its bounds")
        self.found = found


class NoWorld(IceError):
    """Found is the word for what can't be part of a world."""

    def __init__(self, found):
        IceError.__init__(self, "no part of a world")
        self.found = found


class NoTable(IceError):
    """Found is no table."""

    def __init__(self, found):
        IceError.__init__(self, "no table")
        self.found = found


class Faulty(IceError):
    """A table's first fault: the vessel's name, the entry's number, and the word for why it can't be done."""

    def __init__(self, name, number, word):
        IceError.__init__(self, "a table with a fault")
        self.name = name
        self.number = number
        self.word = word


class TooMany(IceError):
    """So many are more than may be."""

    def __init__(self, many):
        IceError.__init__(self, "too many")
        self.many = many


class NoText(IceError):
    """The text can't be read at this row."""

    def __init__(self, at):
        IceError.__init__(self, "a row that can't be read")
        self.at = at


class NoNames(IceError):
    """Found is no names for names."""

    def __init__(self, found):
        IceError.__init__(self, "no names for names")
        self.found = found


class NoEntry(IceError):
    """Found tells no entry that is there."""

    def __init__(self, found):
        IceError.__init__(self, "no such entry")
        self.found = found


class NoWay(IceError):
    """Found is the name of a ship that isn't stuck."""

    def __init__(self, found):
        IceError.__init__(self, "no ship that is stuck")
        self.found = found


class NoLine(IceError):
    """Found is no line, or none that can be answered."""

    def __init__(self, found):
        IceError.__init__(self, "no line")
        self.found = found
