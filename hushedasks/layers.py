"""The search backwards: the least lots from which a quest can be fulfilled, and the least numbers."""

from hushedasks.beginnings import beginning_with
from hushedasks.packing import Cover
from hushedasks.ways import Ways

# Bits for a count beyond those that the quest's own take. Each layer has a least lot, of which there are at most
# 600, so layers with more than 2,000 listeners are not come to.
SPARE_ROOM = 12


class Layers:
    """The least packed lots from which a quest can be fulfilled, by how many listeners they have.

    No deed adds a listener or takes one away. So a least lot has as many as one of those it leads to,
    or one more whose deed is needed but whose place behind it is not; and a layer without lots is the end.
    """

    def __init__(self, ways):
        self._ways = ways
        self._fewer = Cover(ways.packing, [])
        self._next = {}
        self._layer = []
        self._fill(ways.ends())

    def layer(self):
        """Return the list of the least lots with as many listeners as this layer's."""
        return list(self._layer)

    def go_on(self):
        """Go on to the layer with one listener more."""
        for lot in self._layer:
            self._fewer.keep(lot)
        self._fill(list(self._next))

    def _fill(self, lots):
        """Make the layer of the lots that no lot with fewer listeners covers, and all that lead to them."""
        self._layer = []
        self._next = {}
        seen = {}
        wave = self._new(lots, seen)
        while wave:
            self._layer.extend(wave)
            before = []
            for lot in wave:
                as_many, one_more = self._ways.backwards(lot)
                before.extend(self._new(as_many, seen))
                for more in one_more:
                    self._next[more] = True
            wave = before

    def _new(self, lots, seen):
        """Return the list of the lots that are not seen yet, and not covered, and see to it that they are seen."""
        found = []
        for lot in lots:
            if lot not in seen:
                seen[lot] = True
                if not self._fewer.covers(lot):
                    found.append(lot)
        return found


def backward_ways(quest):
    """Return the ways of a quest with room for all layers."""
    return Ways(quest, sum(quest.end_counts).bit_length() + SPARE_ROOM)


def least_of(quest):
    """Return the list, in order, of the least lots from which a quest without sounds can be fulfilled."""
    ways = backward_ways(quest)
    layers = Layers(ways)
    found = []
    while layers.layer():
        found.extend([ways.lot_of(code) for code in layers.layer()])
        layers.go_on()
    return sorted(found)


def least_many(quest):
    """Return the least number of listeners with which a run from the beginning fulfils a quest, or None."""
    ways = backward_ways(quest)
    layers = Layers(ways)
    many = sum(quest.end_counts)
    while layers.layer():
        # The beginning with the least number is a least lot itself, as those below it have fewer.
        if ways.packed(beginning_with(quest.book, many)) in layers.layer():
            return many
        many += 1
        layers.go_on()
    return None
