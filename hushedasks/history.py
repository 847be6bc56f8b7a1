"""What has been done, step by step, so that it can be undone."""

from hushedasks.errors import NothingToUndo


class History:
    """The steps that have been done and not undone, each with what stood ahead of it."""

    def __init__(self, steps):
        self._steps = list(steps)

    def note(self, told, ahead):
        """Note one more step, by what is told of it and what stood ahead of it."""
        self._steps.append((told, ahead))

    def take_back(self):
        """Take the last step back, and return what stood ahead of it."""
        if len(self._steps) == 0:
            raise NothingToUndo()
        _, ahead = self._steps.pop()
        return ahead

    def log(self):
        """Return the list of what is told of the steps, the first one first."""
        return [told for told, _ in self._steps]

    def copy(self):
        """Return an independent history with the same steps."""
        return History(self._steps)
