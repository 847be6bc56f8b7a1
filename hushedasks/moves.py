"""A deed of a book as it moves packed lots, onwards and backwards."""


def spread(many, units):
    """Return the list of all sums of so many units, at least one, each of them one of these."""
    if len(units) == 0:
        return []
    if len(units) == 1:
        return [many * units[0]]
    return [first * units[0] + rest for first in range(many + 1) for rest in spread(many - first, units[1:])]


def spread_all(lots, counts, units):
    """Return the list of all lots that come out if as many units as each count tells are put to the lots.

    For each count there is a list of the units that may be taken.
    """
    for many, kinds in zip(counts, units):
        if many > 0:
            shares = spread(many, kinds)
            lots = [lot + share for lot in lots for share in shares]
    return lots


def behind_sound(places, sound, goes_to, can_be_lost):
    """Return, for each place, the list of the numbers of the places where one can stand behind a sound."""
    found = []
    for at, place in enumerate(places):
        heard = places.index(goes_to.get((place, sound), place))
        found.append([at, heard] if can_be_lost and heard != at else [heard])
    return found


def turned(found):
    """Return, for each number, the list of those that have it in their list."""
    return [[at for at, others in enumerate(found) if other in others] for other in range(len(found))]


def less_one(counts, at):
    """Return the list of the counts, one less at a place."""
    return counts[:at] + [counts[at] - 1] + counts[at + 1:]


class Move:
    """A deed of a book as it moves packed lots.

    `spots` tells, for each spot, the list of the spots that can come next, `stands`, for each stand, that of
    the stands to which those who stand there can go (but for the one whose deed it is), and `own` from which
    stand to which that one goes; it is None for a deed of the house.
    """

    def __init__(self, packing, spots, stands, own):
        self._own = own
        nobody = [0 for _ in stands]
        says = 0 if own is None else packing.units[own[0]]
        said = 0 if own is None else packing.units[own[1]]
        self._spots_on = [[packing.packed(spot, nobody) + said for spot in found] for found in spots]
        self._spots_back = [[packing.packed(spot, nobody) + says for spot in found] for found in turned(spots)]
        self._units_on = [[packing.units[stand] for stand in found] for found in stands]
        self._units_back = [[packing.units[stand] for stand in found] for found in turned(stands)]

    def takes_more(self, counts):
        """Return whether a move to no less than these counts takes one listener more than they have."""
        return self._own is not None and counts[self._own[1]] == 0

    def onwards(self, spot, counts):
        """Return the list of all lots to which the move leads from a spot and counts."""
        if self._own is None:
            return spread_all(self._spots_on[spot], counts, self._units_on)
        if counts[self._own[0]] == 0:
            return []
        return spread_all(self._spots_on[spot], less_one(counts, self._own[0]), self._units_on)

    def backwards(self, spot, counts):
        """Return the list of the least lots from which the move leads to the spot and no less than the counts."""
        if self._own is None or self.takes_more(counts):
            return spread_all(self._spots_back[spot], counts, self._units_back)
        return spread_all(self._spots_back[spot], less_one(counts, self._own[1]), self._units_back)
