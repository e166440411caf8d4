"""The errors of the package; each keeps what it was raised with under the name of its argument."""


class NotALog(ValueError):
    """The value is not a string of the signs that are in use."""

    def __init__(self, value):
        self.value = value


class InvalidRules(ValueError):
    """The value has not the form of rules, at this place of it."""

    def __init__(self, place):
        self.place = place


class InvalidClaim(ValueError):
    """The value is none of the claims."""


class Unpaired(ValueError):
    """The two machines have different numbers of signs."""


class ParseError(ValueError):
    """The text does not fit from the line of this index on."""

    def __init__(self, line):
        self.line = line


class UnknownState(LookupError):
    """The machine has no such state."""

    def __init__(self, state):
        self.state = state


class UnknownEdge(LookupError):
    """The machine has no such edge."""

    def __init__(self, edge):
        self.edge = edge


class UnknownCheckpoint(LookupError):
    """The session has no checkpoint of this number."""

    def __init__(self, number):
        self.number = number


class UnknownRecord(LookupError):
    """The session has no record of this number."""

    def __init__(self, number):
        self.number = number


class EdgeExists(RuntimeError):
    """The machine has this edge already."""

    def __init__(self, edge):
        self.edge = edge


class Endless(RuntimeError):
    """There is a ladder, so chains grow without end."""


class LimitExceeded(OverflowError):
    """Something is larger than the limit allows."""

    def __init__(self, limit):
        self.limit = limit
