"""Runs of a book: whether a value is one, what can come next, and the lot behind."""

from hushedasks.books import check_book
from hushedasks.errors import InvalidLot, InvalidRun
from hushedasks.steps import Steps
from hushedasks.values import is_whole


def is_counts(book, value):
    """Return whether a value is a list with a whole number of at least 0 for each stand."""
    if not isinstance(value, list) or len(value) != len(book.stands()):
        return False
    return all([is_whole(many) and many >= 0 for many in value])


def is_lot(book, value):
    """Return whether a value is a lot of a book."""
    if not isinstance(value, tuple) or len(value) != 2:
        return False
    house, counts = value
    return house in book.houses() and is_counts(book, counts)


def check_lot(book, value):
    """Raise InvalidLot unless a value is a lot of a book."""
    if not is_lot(book, value):
        raise InvalidLot(value)


def lot_behind(steps, lot, value):
    """Return the lot behind any value, with a list of its own, or None if it is no run from the lot."""
    if not isinstance(value, list):
        return None
    house, counts = lot
    behind = (house, list(counts))
    for event in value:
        if not steps.allows(behind, event):
            return None
        behind = steps.after(behind, event)
    return behind


def is_run(book, lot, value):
    """Return whether any value is a run from a lot."""
    check_book(book)
    check_lot(book, lot)
    return lot_behind(Steps(book), lot, value) is not None


def next_events(book, lot, run):
    """Return the list, in order, of all events that can come next behind a run."""
    check_book(book)
    check_lot(book, lot)
    steps = Steps(book)
    behind = lot_behind(steps, lot, run)
    if behind is None:
        raise InvalidRun(run)
    return steps.events(behind)


def led(book, lot, run):
    """Return the lot behind a run."""
    check_book(book)
    check_lot(book, lot)
    behind = lot_behind(Steps(book), lot, run)
    if behind is None:
        raise InvalidRun(run)
    return behind
