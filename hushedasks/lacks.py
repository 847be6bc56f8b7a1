"""Lacks that last: what one listener can still come to when all others have fallen."""

from hushedasks.beginnings import beginning_with
from hushedasks.books import check_book
from hushedasks.errors import InvalidItem, InvalidList, UnknownName
from hushedasks.layers import least_many
from hushedasks.paths import run_from
from hushedasks.quests import goal_quest
from hushedasks.runs import lot_behind
from hushedasks.steps import Steps


def check_place(book, house, stand):
    """Raise UnknownName unless these are one of the houses and one of the stands."""
    if house not in book.houses():
        raise UnknownName(house)
    if stand not in book.stands():
        raise UnknownName(stand)


def check_well(book, well):
    """Raise InvalidList unless a value is a list, InvalidItem with its first that is no stand or was ahead."""
    if not isinstance(well, list):
        raise InvalidList(well)
    for at, item in enumerate(well):
        if item not in book.stands() or item in well[:at]:
            raise InvalidItem(item)


def counts_of_one(book, stand):
    """Return the counts of one listener, at a stand."""
    return [int(other == stand) for other in book.stands()]


def stand_quest(book, house, stand):
    """Return the quest for a listener at a stand, with the house at a house, or None for any one."""
    return goal_quest(book, (house, counts_of_one(book, stand)))


def alone_at(book, house, stand):
    """Return the list, in order, of the stands that a listener alone can come to from a stand, and this one."""
    lot = (house, counts_of_one(book, stand))
    return [other for other in sorted(book.stands()) if run_from(stand_quest(book, None, other), lot) is not None]


def alone(book, house, stand):
    """Return the list, in order, of the stands that a listener can come to if it is the only one and stands here."""
    check_book(book)
    check_place(book, house, stand)
    return alone_at(book, house, stand)


def lasting(book, well):
    """Return the list, in order, of the lacks that last for some stands that are well."""
    check_book(book)
    check_well(book, well)
    found = []
    for house in book.houses():
        for stand in book.stands():
            if not any([other in well for other in alone_at(book, house, stand)]):
                number = least_many(stand_quest(book, house, stand))
                if number is not None:
                    found.append((house, stand, number))
    return sorted(found)


def falls_but_one(book, lot, stand):
    """Return the list of the falls of all listeners of a lot but one at a stand."""
    rest = [many - one for many, one in zip(lot[1], counts_of_one(book, stand))]
    return [("fall", other) for other, many in zip(book.stands(), rest) for _ in range(many)]


def lack_run(book, house, stand):
    """Return a run from the beginning with the least number, as short as can be, to just one listener, or None.

    The house stands at the house then, and the listener at the stand.
    """
    check_book(book)
    check_place(book, house, stand)
    quest = stand_quest(book, house, stand)
    many = least_many(quest)
    if many is None:
        return None
    begin = beginning_with(book, many)
    run = run_from(quest, begin)
    # All others fall in any such run, and whoever has not fallen yet can only help: so they fall last.
    return run + falls_but_one(book, lot_behind(Steps(book), begin, run), stand)
