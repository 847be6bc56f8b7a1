"""Rows and logs: which sounds can come one after another, and with how many listeners."""

from hushedasks.books import check_book, check_many
from hushedasks.errors import InvalidItem
from hushedasks.layers import least_many
from hushedasks.paths import run_from_beginning
from hushedasks.quests import log_quest, row_quest
from hushedasks.values import is_name


def check_sounds(value, least, most):
    """Raise InvalidList unless a value is a list of so many items, InvalidItem with its first that is no name."""
    check_many(value, least, most)
    for item in value:
        if not is_name(item):
            raise InvalidItem(item)


def check_row(value):
    """Raise InvalidList or InvalidItem unless a value is a row."""
    check_sounds(value, 1, 3)


def check_log(value):
    """Raise InvalidList or InvalidItem unless a value is a log."""
    check_sounds(value, 0, 3)


def least_for_row(book, row):
    """Return the least number of listeners with which a run from the beginning bears a row, or None."""
    check_book(book)
    check_row(row)
    return least_many(row_quest(book, row))


def run_of_row(book, row):
    """Return a run from the beginning with the least number that bears a row, as short as can be, or None."""
    check_book(book)
    check_row(row)
    return run_from_beginning(row_quest(book, row))


def least_for_log(book, log):
    """Return the least number of listeners with which a run from the beginning keeps a log, or None."""
    check_book(book)
    check_log(log)
    return least_many(log_quest(book, log))


def run_of_log(book, log):
    """Return a run from the beginning with the least number that keeps a log, as short as can be, or None."""
    check_book(book)
    check_log(log)
    return run_from_beginning(log_quest(book, log))
