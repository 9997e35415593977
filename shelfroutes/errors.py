"""The errors of the package.

Those that take a message get no attribute. The others keep what they take, and their own message is
fixed, as what they keep can be any value.
"""


class ShelfError(ValueError):
    """A value is not what the package asks for."""


class InvalidTable(ShelfError):
    """Tables are not as a query needs them."""


class InvalidRow(ShelfError):
    """A row, or a dict of rows, does not belong to its table."""


class InvalidBag(ShelfError):
    """A value is no result, or results have no proper numbers."""


class InvalidQuery(ShelfError):
    """A value is no query, or breaks a rule of queries."""


class InvalidStore(ShelfError):
    """Stores and counters do not belong to their query."""


class InvalidStep(ShelfError):
    """A step is not right where it stands."""


class InvalidPlan(ShelfError):
    """A value is no plan, or none for this scheme."""


class InvalidTransition(ShelfError):
    """A value is no transition, or none for this scheme."""


class InvalidScheme(ShelfError):
    """A value is no scheme."""


class InvalidEvent(ShelfError):
    """A value is no event, or events are no history."""


class InvalidSnapshot(ShelfError):
    """A value is no snapshot of this scheme."""


class InvalidTree(ShelfError):
    """A value is no tree of this query."""


class InvalidOperation(ShelfError):
    """A value does not take part in what is asked for."""


class ParseError(ShelfError):
    """A line of a text cannot be read."""

    def __init__(self, line):
        super().__init__("a line cannot be read")
        self.line = line


class Stopped(ShelfError):
    """An engine does not accept one of several events."""

    def __init__(self, index):
        super().__init__("an event is not accepted")
        self.index = index


class Wrong(ShelfError):
    """A scheme is wrong."""

    def __init__(self, certificate):
        super().__init__("the scheme is wrong")
        self.certificate = certificate


class UnknownName(KeyError):
    """There is nothing of this name."""

    def __init__(self, name):
        super().__init__("there is nothing of this name")
        self.name = name


class UnknownKey(IndexError):
    """There is no row with this key."""

    def __init__(self, key):
        super().__init__("there is no row with this key")
        self.key = key


class NothingToUndo(LookupError):
    """There are fewer changes than are to be taken back or done again."""

    def __init__(self, many):
        super().__init__("there are not so many changes")
        self.many = many


class TooMany(OverflowError):
    """There is more than the limit allows."""

    def __init__(self, limit):
        super().__init__("there is more than the limit allows")
        self.limit = limit


class InvalidNumber(RuntimeError):
    """A value is not the integer that is asked for."""

    def __init__(self, value):
        super().__init__("not the integer that is asked for")
        self.value = value
