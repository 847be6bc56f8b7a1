"""Libraries: books that are kept by names."""

from hushedasks.books import check_book
from hushedasks.errors import InvalidName, TakenName, UnknownName
from hushedasks.history import History
from hushedasks.rows import check_row, least_for_row
from hushedasks.tables import first_unlike, has_places_of
from hushedasks.values import is_name


class Library:
    """Books by their names: each step puts another dict and another list of names in place of those that stand."""

    def __init__(self):
        self._books = {}
        self._names = []
        self._history = History([])

    def put(self, name, book):
        """Keep one more book by a name."""
        if not is_name(name):
            raise InvalidName(name)
        if name in self._names:
            raise TakenName(name)
        check_book(book)
        self._go_on(("put", name), {**self._books, name: book})

    def drop(self, name):
        """Take the book of a name out."""
        self._check_kept(name)
        self._go_on(("drop", name), {other: self._books[other] for other in self._names if other != name})

    def change(self, name, book):
        """Put another book in the place of the one that is kept by a name."""
        self._check_kept(name)
        check_book(book)
        self._go_on(("change", name), {**self._books, name: book})

    def book_of(self, name):
        """Return the book that is kept by a name."""
        self._check_kept(name)
        return self._books[name]

    def names(self):
        """Return the list of all names, in order."""
        return list(self._names)

    def alike(self, book):
        """Return the list of the names, in order, of the books with the same houses, stands and table as a book."""
        check_book(book)
        found = [name for name in self._names if has_places_of(book, self._books[name])]
        return [name for name in found if first_unlike(book, self._books[name]) is None]

    def bearing(self, row):
        """Return the list of the names, in order, of the books of which some run bears a row."""
        # Checked here as well, as there may be no book.
        check_row(row)
        return [name for name in self._names if least_for_row(self._books[name], row) is not None]

    def back(self):
        """Undo the last step that has not been undone."""
        self._stand(self._history.take_back())

    def log(self):
        """Return the list of the steps that have not been undone, the first one first."""
        return self._history.log()

    def copy(self):
        """Return an independent library with the same books by the same names and the same steps to undo."""
        other = Library()
        other._stand(self._books)
        other._history = self._history.copy()
        return other

    def _check_kept(self, name):
        """Raise UnknownName unless a value is a name by which a book is kept."""
        # The list is asked, as a dict can't be asked for all values.
        if name not in self._names:
            raise UnknownName(name)

    def _go_on(self, told, books):
        """Note a step, and keep these books from now on."""
        self._history.note(told, self._books)
        self._stand(books)

    def _stand(self, books):
        """Keep just these books."""
        self._books = books
        # A new list, as loops over the old one may not have ended.
        self._names = sorted(books)

    def __len__(self):
        return len(self._names)

    def __contains__(self, name):
        return name in self._names

    def __iter__(self):
        return iter(self._names)

    def __eq__(self, other):
        return isinstance(other, Library) and self._books == other._books
