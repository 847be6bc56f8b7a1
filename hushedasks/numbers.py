"""Least numbers: with how many listeners a goal can be come to from the beginning."""

from hushedasks.beginnings import beginning_with
from hushedasks.books import check_book
from hushedasks.errors import InvalidNumber
from hushedasks.goals import check_goal
from hushedasks.layers import least_many
from hushedasks.paths import run_from_beginning
from hushedasks.quests import goal_quest
from hushedasks.values import is_whole


def beginning(book, many):
    """Return the lot in which the house and so many listeners stand at the first of their standings."""
    check_book(book)
    if not is_whole(many) or many < 0:
        raise InvalidNumber(many)
    return beginning_with(book, many)


def least_number(book, goal):
    """Return the least number of listeners with which a run from the beginning comes to a goal, or None."""
    check_book(book)
    check_goal(book, goal)
    return least_many(goal_quest(book, goal))


def run_to(book, goal):
    """Return a run from the beginning with the least number to a goal, as short as can be, or None."""
    check_book(book)
    check_goal(book, goal)
    return run_from_beginning(goal_quest(book, goal))
