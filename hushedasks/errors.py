"""The errors that the package raises."""


class HushError(ValueError):
    """What all errors of this package are derived from."""


class InvalidList(HushError):
    """An argument that has to be a list is none, or does not fit as a list."""

    def __init__(self, value=None):
        self.value = value


class InvalidItem(HushError):
    """An item of an argument, or an argument that has to be an item, does not fit."""

    def __init__(self, value=None):
        self.value = value


class InvalidBook(HushError):
    """An argument that has to be a book is none, or does not fit."""

    def __init__(self, value=None):
        self.value = value


class InvalidLot(HushError):
    """An argument that has to be a lot of the book is none."""

    def __init__(self, value=None):
        self.value = value


class InvalidRun(HushError):
    """An argument that has to be a run is none."""

    def __init__(self, value=None):
        self.value = value


class InvalidGoal(HushError):
    """An argument that has to be a goal of the book is none."""

    def __init__(self, value=None):
        self.value = value


class InvalidNumber(HushError):
    """An argument that has to be a whole number within bounds is none."""

    def __init__(self, value=None):
        self.value = value


class InvalidText(HushError):
    """An argument that has to be the text of a book is none."""

    def __init__(self, value=None):
        self.value = value


class InvalidName(HushError):
    """An argument that has to be a name is none."""

    def __init__(self, name=None):
        self.name = name


class TakenName(HushError):
    """Something is kept by this name already."""

    def __init__(self, name=None):
        self.name = name


class UnknownName(HushError):
    """An argument that has to be one of some names is none of them."""

    def __init__(self, name=None):
        self.name = name


class NothingToUndo(HushError):
    """There is nothing left that could be undone."""
