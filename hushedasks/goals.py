"""Goals of a book: whether a value is one."""

from hushedasks.errors import InvalidGoal
from hushedasks.runs import is_counts


def is_goal(book, value):
    """Return whether a value is a goal of a book."""
    if not isinstance(value, tuple) or len(value) != 2:
        return False
    house, counts = value
    return (house is None or house in book.houses()) and is_counts(book, counts)


def check_goal(book, value):
    """Raise InvalidGoal unless a value is a goal of a book."""
    if not is_goal(book, value):
        raise InvalidGoal(value)
