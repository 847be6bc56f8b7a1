"""Live books: books that are led on step by step, and back."""

from hushedasks.books import MOST_DEEDS, MOST_HEARINGS, Book, check_book, is_deed, is_heard_already, is_hearing
from hushedasks.errors import InvalidItem, InvalidList
from hushedasks.history import History
from hushedasks.lacks import lasting
from hushedasks.numbers import least_number
from hushedasks.tables import without


class Live:
    """A book that goes on: each step puts another book in its place."""

    def __init__(self, book):
        check_book(book)
        self._book = book
        self._history = History([])

    def add(self, deed):
        """Put one more deed behind the others."""
        book = self._book
        if not is_deed(book.houses(), book.stands(), deed):
            raise InvalidItem(deed)
        deeds = book.deeds()
        if len(deeds) >= MOST_DEEDS:
            raise InvalidList(deeds)
        later = Book(book.houses(), book.stands(), deeds + [deed], book.hearings(), book.lost())
        self._go_on(("add", deed), later)

    def hear(self, hearing):
        """Put one more hearing behind the others."""
        book = self._book
        hearings = book.hearings()
        if not is_hearing(book.houses(), book.stands(), hearing) or is_heard_already(hearing, hearings):
            raise InvalidItem(hearing)
        if len(hearings) >= MOST_HEARINGS:
            raise InvalidList(hearings)
        later = Book(book.houses(), book.stands(), book.deeds(), hearings + [hearing], book.lost())
        self._go_on(("hear", hearing), later)

    def leave(self, entry):
        """Take an entry out."""
        later = without(self._book, entry)
        self._go_on(("leave", entry), later)

    def shown(self):
        """Return the book as it stands."""
        return self._book

    def least_number(self, goal):
        """Return the least number of listeners for a goal of the book as it stands, or None."""
        return least_number(self._book, goal)

    def lasting(self, well):
        """Return the list, in order, of the lacks that last in the book as it stands."""
        return lasting(self._book, well)

    def back(self):
        """Undo the last step that has not been undone."""
        self._book = self._history.take_back()

    def log(self):
        """Return the list of the steps that have not been undone, the first one first."""
        return self._history.log()

    def copy(self):
        """Return an independent live book with the same book and the same steps to undo."""
        other = Live(self._book)
        other._history = self._history.copy()
        return other

    def _go_on(self, told, book):
        """Note a step, and put the book that comes of it in the place of the one that stands."""
        self._history.note(told, self._book)
        self._book = book

    def __eq__(self, other):
        return isinstance(other, Live) and self._book == other._book
