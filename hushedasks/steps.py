"""Single events: which ones a book allows in a lot, and the lot behind each."""

from hushedasks.values import is_whole


def all_heard(bounds):
    """Return the list, in order, of all tuples of numbers from 0 up to these bounds."""
    rows = [()]
    for bound in bounds:
        rows = [row + (many,) for row in rows for many in range(bound + 1)]
    return rows


def within(bounds, value):
    """Return whether a value is a tuple of whole numbers from 0 up to these bounds."""
    if not isinstance(value, tuple) or len(value) != len(bounds):
        return False
    return all([is_whole(many) and 0 <= many <= bound for many, bound in zip(value, bounds)])


class Steps:
    """The events of one book, with what they need looked up once."""

    def __init__(self, book):
        self._stands = book.stands()
        self._deeds = book.deeds()
        self._lost = book.lost()
        self._index = {stand: at for at, stand in enumerate(self._stands)}
        self._goes_to = {(place, sound): other for place, sound, other in book.hearings()}

    def events(self, lot):
        """Return the list, in order, of all events that can come next in a lot."""
        found = []
        for number in range(len(self._deeds)):
            found.extend(self.deed_events(lot, number))
        falls = [("fall", stand) for stand in sorted(self._stands) if self._many_at(lot, stand) > 0]
        return found + falls

    def deed_events(self, lot, number):
        """Return the list, in order, of all events of the deed with a number that can come next in a lot."""
        deed = self._deeds[number]
        if not self._can_do(lot, deed):
            return []
        return [("deed", number, heard) for heard in self._outcomes(lot, deed)]

    def allows(self, lot, event):
        """Return whether any value is an event that can come next in a lot."""
        if not isinstance(event, tuple):
            return False
        if len(event) == 2:
            return event[0] == "fall" and self._many_at(lot, event[1]) > 0
        return len(event) == 3 and event[0] == "deed" and self._allows_deed(lot, event[1], event[2])

    def after(self, lot, event):
        """Return the lot behind an event that can come next, with a list of its own."""
        if event[0] == "fall":
            house, counts = lot
            left = list(counts)
            left[self._index[event[1]]] -= 1
            return (house, left)
        deed = self._deeds[event[1]]
        if event[2] is None:
            # A sound that can't be lost is heard by all who could hear it.
            return self._after_deed(lot, deed, self._could_hear(lot, deed))
        return self._after_deed(lot, deed, event[2])

    def _many_at(self, lot, place):
        """Return how many listeners stand at any value: none where it is no stand."""
        if not isinstance(place, str) or place not in self._index:
            return 0
        return lot[1][self._index[place]]

    def _can_do(self, lot, deed):
        """Return whether the house or a listener stands where a deed is done."""
        return deed[0] == lot[0] or self._many_at(lot, deed[0]) > 0

    def _could_hear(self, lot, deed):
        """Return how many could hear a deed: the house, 0 or 1, and those at each stand."""
        house, counts = lot
        place, sound, _ = deed
        found = [int(house != place and (house, sound) in self._goes_to)]
        for stand, many in zip(self._stands, counts):
            # Whoever says a sound does not hear it.
            others = many - int(stand == place)
            found.append(others if (stand, sound) in self._goes_to else 0)
        return tuple(found)

    def _outcomes(self, lot, deed):
        """Return the list, in order, of all that can stand as `heard` in an event of a deed."""
        if deed[1] not in self._lost:
            return [None]
        return all_heard(self._could_hear(lot, deed))

    def _allows_deed(self, lot, number, heard):
        """Return whether any two values are the number and the `heard` of an event."""
        if not is_whole(number) or not 0 <= number < len(self._deeds):
            return False
        deed = self._deeds[number]
        if not self._can_do(lot, deed):
            return False
        if deed[1] not in self._lost:
            return heard is None
        return within(self._could_hear(lot, deed), heard)

    def _after_deed(self, lot, deed, heard):
        """Return the lot behind a deed that so many hear."""
        house, counts = lot
        place, sound, other = deed
        moved = list(counts)
        for at, stand in enumerate(self._stands):
            if heard[at + 1] > 0:
                moved[at] -= heard[at + 1]
                moved[self._index[self._goes_to[(stand, sound)]]] += heard[at + 1]
        if place == house:
            return (other, moved)
        moved[self._index[place]] -= 1
        moved[self._index[other]] += 1
        if heard[0] > 0:
            return (self._goes_to[(house, sound)], moved)
        return (house, moved)
