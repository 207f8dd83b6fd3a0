"""The errors of the package."""


class KeywiseError(ValueError):
    """A value does not have the form or the content that is required. Takes a message."""


class InvalidRow(KeywiseError):
    """A value is not a row as required."""


class InvalidRule(KeywiseError):
    """A value is not a rule as required, or no such rule exists."""


class InvalidPartial(KeywiseError):
    """A value is not a partial row as required."""


class InvalidFormula(KeywiseError):
    """A value is not a formula or not equations as required."""


class InvalidPolicy(KeywiseError):
    """A value is not a policy as required."""


class InvalidLevels(KeywiseError):
    """A value is not levels as required."""


class InvalidOperation(KeywiseError):
    """An operation is not possible."""


class InvalidMessage(KeywiseError):
    """A value is not a message of the store."""


class InvalidEdit(KeywiseError):
    """An edit of a workspace is not possible."""


class ParseError(KeywiseError):
    """A value is not a text of the required kind."""


class InvalidCommand(KeywiseError):
    """A line is not a command of the shell."""


class InvalidNumber(IndexError):
    """A number is not as required."""

    def __init__(self, value):
        self.value = value


class UnknownName(KeyError):
    """Nothing has this name."""

    def __init__(self, name):
        self.name = name


class TooLarge(OverflowError):
    """Something exceeds this limit."""

    def __init__(self, limit):
        self.limit = limit


class Broken(ArithmeticError):
    """A policy merges these valid rows into a row that is not valid."""

    def __init__(self, rows):
        self.rows = rows


class Refused(LookupError):
    """A row is not valid, because it contains this pattern."""

    def __init__(self, pattern):
        self.pattern = pattern


class NothingToUndo(RuntimeError):
    """There are fewer than so many things to undo or to do again."""

    def __init__(self, many):
        self.many = many
