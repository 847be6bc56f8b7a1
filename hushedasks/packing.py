"""Packed lots: a spot and the counts of the stands in one integer, so that searches are quick."""


class Packing:
    """How lots of some stands are packed, with `room` bits for each count.

    A spot is a number from 0 for where the house stands and which sounds have come. The uppermost bit of
    each room is never set in a packed lot, so each count has to be less than 2 ** (room - 1).
    """

    def __init__(self, stands, room):
        self._shifts = [room * at for at in range(stands)]
        self._spot_shift = room * stands
        self._most = (1 << room) - 1
        self.units = [1 << shift for shift in self._shifts]
        self.marks = sum([unit << (room - 1) for unit in self.units])

    def packed(self, spot, counts):
        """Return the packed lot of a spot and counts."""
        return (spot << self._spot_shift) + sum([many * unit for many, unit in zip(counts, self.units)])

    def spot_of(self, lot):
        """Return the spot of a packed lot."""
        return lot >> self._spot_shift

    def counts_of(self, lot):
        """Return the list of the counts of a packed lot."""
        return [(lot >> shift) & self._most for shift in self._shifts]


class Cover:
    """Packed lots that are kept, and all that are at least one of them."""

    def __init__(self, packing, lots):
        self._packing = packing
        self._kept = {}
        for lot in lots:
            self.keep(lot)

    def keep(self, lot):
        """Keep one more lot."""
        self._kept.setdefault(self._packing.spot_of(lot), []).append(lot)

    def covers(self, lot):
        """Return whether a lot is at least one that is kept."""
        marks = self._packing.marks
        marked = lot | marks
        for least in self._kept.get(self._packing.spot_of(lot), []):
            # Where a count is too small, the difference takes the mark of its room away.
            if (marked - least) & marks == marks:
                return True
        return False
