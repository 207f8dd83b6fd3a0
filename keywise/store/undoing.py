"""What everything that can be undone and made again has in common."""

from keywise.errors import InvalidNumber, NothingToUndo
from keywise.levels.ratios import is_integer


def check_many(many, there):
    """Raise the error if not so many of the things that are there can be undone, or be made again."""
    if not is_integer(many) or many < 0:
        raise InvalidNumber(many)
    if many > there:
        raise NothingToUndo(many)
