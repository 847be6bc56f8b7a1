"""The search onwards: the runs with as few events as possible that fulfil a quest."""

from hushedasks.beginnings import beginning_with
from hushedasks.layers import least_many
from hushedasks.packing import Cover
from hushedasks.steps import Steps
from hushedasks.ways import Ways


class Paths:
    """The packed lots to which deeds lead from one lot, each with the deed and the lot ahead of it.

    Falls are left out: whatever can be with fewer listeners can be with more of them, by as many deeds.
    """

    def __init__(self, ways, start):
        self._ways = ways
        self._ends = Cover(ways.packing, ways.ends())
        self._ahead = {start: None}
        self._wave = [start]

    def end(self):
        """Return a packed lot with which the quest ends, by as few deeds as possible, or None."""
        while self._wave:
            for lot in self._wave:
                if self._ends.covers(lot):
                    return lot
            self._go_on()
        return None

    def path(self, end):
        """Return the list of (packed lot, number of the deed that leads on, packed lot behind) up to one."""
        found = []
        step = self._ahead[end]
        while step is not None:
            lot, number = step
            found.append((lot, number, end))
            end = lot
            step = self._ahead[end]
        return found[::-1]

    def _go_on(self):
        """Go on to the lots that one deed more leads to, and no fewer deeds."""
        found = []
        for lot in self._wave:
            for number, others in self._ways.onwards(lot):
                for behind in others:
                    if behind not in self._ahead:
                        self._ahead[behind] = (lot, number)
                        found.append(behind)
        self._wave = found


def event_between(steps, lot, number, behind):
    """Return the first event of a deed that leads from a lot to another one."""
    for event in steps.deed_events(lot, number):
        if steps.after(lot, event) == behind:
            return event
    return None


def run_from(quest, lot):
    """Return a run from a lot that fulfils a quest, with as few events as possible, or None."""
    most = max(sum(lot[1]), sum(quest.end_counts))
    ways = Ways(quest, most.bit_length() + 1)
    paths = Paths(ways, ways.packed(lot))
    end = paths.end()
    if end is None:
        return None
    steps = Steps(quest.book)
    return [event_between(steps, ways.lot_of(ahead), number, ways.lot_of(behind))
            for ahead, number, behind in paths.path(end)]


def run_from_beginning(quest):
    """Return a run from the beginning with the least number that fulfils a quest, as short as can be, or None."""
    many = least_many(quest)
    if many is None:
        return None
    return run_from(quest, beginning_with(quest.book, many))
