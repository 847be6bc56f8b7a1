"""All the moves of a quest: what its book's deeds do to packed lots."""

from hushedasks.moves import Move, behind_sound
from hushedasks.packing import Packing


class Ways:
    """The packed lots of a quest, with `room` bits for each count, and where deeds lead from them and to them.

    The spots of a stage are numbered behind those of the stages ahead of it, each as its house is in `houses`.
    """

    def __init__(self, quest, room):
        self._quest = quest
        self._houses = quest.book.houses()
        self._stands = quest.book.stands()
        self._lost = quest.book.lost()
        self._goes_to = {(place, sound): other for place, sound, other in quest.book.hearings()}
        self.packing = Packing(len(self._stands), room)
        self._moves = [self._move(deed) for deed in quest.book.deeds()]

    def packed(self, lot):
        """Return the packed lot, ahead of all sounds, of a lot."""
        house, counts = lot
        return self.packing.packed(self._houses.index(house), counts)

    def lot_of(self, code):
        """Return the lot of a packed lot."""
        house = self._houses[self.packing.spot_of(code) % len(self._houses)]
        return (house, self.packing.counts_of(code))

    def ends(self):
        """Return the list of the least packed lots with which the quest ends."""
        behind = self._quest.last * len(self._houses)
        spots = [behind + self._houses.index(house) for house in self._quest.end_houses]
        return [self.packing.packed(spot, self._quest.end_counts) for spot in spots]

    def onwards(self, code):
        """Return the list of (number of a deed, list of the packed lots to which it leads)."""
        spot = self.packing.spot_of(code)
        counts = self.packing.counts_of(code)
        return [(number, move.onwards(spot, counts)) for number, move in enumerate(self._moves)]

    def backwards(self, code):
        """Return the least packed lots from which a deed leads to one that is at least this one, in two lists.

        The first is of those with as many listeners as this one, the second of those with one more.
        """
        spot = self.packing.spot_of(code)
        counts = self.packing.counts_of(code)
        as_many = []
        one_more = []
        for move in self._moves:
            if move.takes_more(counts):
                one_more.extend(move.backwards(spot, counts))
            else:
                as_many.extend(move.backwards(spot, counts))
        return as_many, one_more

    def _move(self, deed):
        """Return the move of a deed."""
        place, sound, other = deed
        stands = self._behind(self._stands, sound)
        if place in self._houses:
            goes = [[self._houses.index(other)] if house == place else [] for house in self._houses]
            return Move(self.packing, self._spots(goes, sound), stands, None)
        own = (self._stands.index(place), self._stands.index(other))
        return Move(self.packing, self._spots(self._behind(self._houses, sound), sound), stands, own)

    def _behind(self, places, sound):
        """Return, for each place, the list of the numbers of the places where one can stand behind a sound."""
        return behind_sound(places, sound, self._goes_to, sound in self._lost)

    def _spots(self, goes, sound):
        """Return, for each spot, the list of those to which a sound leads, if the house goes so."""
        found = []
        for stage in range(self._quest.last + 1):
            behind = self._quest.track.get((stage, sound))
            for houses in goes:
                found.append([] if behind is None else [behind * len(self._houses) + house for house in houses])
        return found
