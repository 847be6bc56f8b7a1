"""Books: what the house and the listeners can say and hear, and what can be lost."""

from hushedasks.errors import InvalidBook, InvalidItem, InvalidList
from hushedasks.values import is_name

MOST_DEEDS = 10
MOST_HEARINGS = 12


def check_many(value, least, most):
    """Raise InvalidList unless a value is a list of so many items."""
    if not isinstance(value, list) or not least <= len(value) <= most:
        raise InvalidList(value)


def check_names(names, taken):
    """Raise InvalidItem with the first item that is no name, is taken, or stands ahead already."""
    for at, item in enumerate(names):
        if not is_name(item) or item in taken or item in names[:at]:
            raise InvalidItem(item)


def is_deed(houses, stands, value):
    """Return whether a value is a deed for these houses and stands."""
    if not isinstance(value, tuple) or len(value) != 3:
        return False
    place, sound, other = value
    if sound is not None and not is_name(sound):
        return False
    return (place in houses and other in houses) or (place in stands and other in stands)


def is_hearing(houses, stands, value):
    """Return whether a value is a hearing for these houses and stands."""
    return is_deed(houses, stands, value) and value[1] is not None


def is_heard_already(hearing, hearings):
    """Return whether one of the hearings has the place and the sound of this one."""
    return hearing[:2] in [earlier[:2] for earlier in hearings]


def check_deeds(houses, stands, deeds):
    """Raise InvalidItem with the first item that is no deed."""
    for item in deeds:
        if not is_deed(houses, stands, item):
            raise InvalidItem(item)


def check_hearings(houses, stands, hearings):
    """Raise InvalidItem with the first item that is no hearing, or is heard already."""
    for at, item in enumerate(hearings):
        if not is_hearing(houses, stands, item) or is_heard_already(item, hearings[:at]):
            raise InvalidItem(item)


class Book:
    """The standings of a house and its listeners, their deeds and hearings, and the sounds that get lost."""

    def __init__(self, houses, stands, deeds, hearings, lost):
        check_many(houses, 1, 3)
        check_names(houses, [])
        check_many(stands, 1, 4)
        check_names(stands, houses)
        check_many(deeds, 0, MOST_DEEDS)
        check_deeds(houses, stands, deeds)
        check_many(hearings, 0, MOST_HEARINGS)
        check_hearings(houses, stands, hearings)
        check_many(lost, 0, 4)
        check_names(lost, [])
        # Copies, so that nothing the caller does to its lists later gets in here.
        self._houses = list(houses)
        self._stands = list(stands)
        self._deeds = list(deeds)
        self._hearings = list(hearings)
        self._lost = list(lost)

    def houses(self):
        """Return the standings of the house, the first one first."""
        return list(self._houses)

    def stands(self):
        """Return the standings of the listeners, the first one first."""
        return list(self._stands)

    def deeds(self):
        """Return the deeds as they were given."""
        return list(self._deeds)

    def hearings(self):
        """Return the hearings as they were given."""
        return list(self._hearings)

    def lost(self):
        """Return the sounds that can be lost, as they were given."""
        return list(self._lost)

    def sounds(self):
        """Return the list, in order, of all names among the sounds of the deeds."""
        return sorted({sound for _, sound, _ in self._deeds if sound is not None})

    def __eq__(self, other):
        return (
            isinstance(other, Book)
            and self._houses == other._houses
            and self._stands == other._stands
            and self._deeds == other._deeds
            and self._hearings == other._hearings
            and self._lost == other._lost
        )


def check_book(value):
    """Raise InvalidBook unless a value is a book."""
    if not isinstance(value, Book):
        raise InvalidBook(value)
