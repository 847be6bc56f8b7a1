"""Least lots: from which lots a goal can be come to, and what bars it where it can't from the beginning."""

from hushedasks.bars import shuts_in
from hushedasks.beginnings import is_under_beginning
from hushedasks.books import check_book
from hushedasks.goals import check_goal
from hushedasks.layers import least_of
from hushedasks.paths import run_from
from hushedasks.quests import goal_quest
from hushedasks.runs import check_lot, is_lot


def least_lots(book, goal):
    """Return the list, in order, of the least lots from which some run comes to a goal."""
    check_book(book)
    check_goal(book, goal)
    return least_of(goal_quest(book, goal))


def comes_to(book, lot, goal):
    """Return a run from a lot to one that is at least a goal, with as few events as possible, or None."""
    check_book(book)
    check_lot(book, lot)
    check_goal(book, goal)
    return run_from(goal_quest(book, goal), lot)


def bar(book, goal):
    """Return a list of lots that bars a goal, or None if some run from a beginning comes to it."""
    lots = least_lots(book, goal)
    # No deed leads to the lots from which the goal can be come to but from such ones: they bar it, or nothing does.
    if any([is_under_beginning(book, lot) for lot in lots]):
        return None
    return lots


def is_bar(book, goal, value):
    """Return whether any value is a list of lots that bars a goal."""
    check_book(book)
    check_goal(book, goal)
    if not isinstance(value, list) or not all([is_lot(book, lot) for lot in value]):
        return False
    if any([is_under_beginning(book, lot) for lot in value]):
        return False
    return shuts_in(goal_quest(book, goal), value)
