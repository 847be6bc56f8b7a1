"""Tables: the least numbers of all small goals, by which books are compared and entries are told to be spare."""

from hushedasks.books import Book, check_book
from hushedasks.errors import InvalidBook, InvalidItem
from hushedasks.numbers import least_number
from hushedasks.values import is_whole


def all_counts(stands, many):
    """Return the list of all counts, for so many stands, of so many listeners in all."""
    if stands == 1:
        return [[many]]
    return [[first] + rest for first in range(many + 1) for rest in all_counts(stands - 1, many - first)]


def small_goals(book):
    """Return the list, in order, of all goals of a book with a house and one or two listeners."""
    stands = len(book.stands())
    # The counts are made anew for each house, as no list may stand in two goals.
    return sorted([(house, counts) for house in book.houses()
                   for counts in all_counts(stands, 1) + all_counts(stands, 2)])


def table(book):
    """Return the list, in order, of all tuples of a small goal's house and counts, and its least number."""
    check_book(book)
    return [(house, counts, least_number(book, (house, counts))) for house, counts in small_goals(book)]


def has_places_of(book, value):
    """Return whether any value is a book with the same lists of houses and of stands as a book."""
    return isinstance(value, Book) and value.houses() == book.houses() and value.stands() == book.stands()


def check_books(book, other):
    """Raise InvalidBook unless two values are books, the other one with the same houses and stands."""
    check_book(book)
    if not has_places_of(book, other):
        raise InvalidBook(other)


def is_less(number, other):
    """Return whether a least number is less than another one, where None is more than all numbers."""
    return number is not None and (other is None or number < other)


def first_unlike(book, other):
    """Return the first small goal whose least numbers are unlike in two books, or None."""
    check_books(book, other)
    for goal in small_goals(book):
        if least_number(book, goal) != least_number(other, goal):
            return goal
    return None


def beyond(book, other):
    """Return the first small goal whose least number is less in a book than in another one, or None."""
    check_books(book, other)
    for goal in small_goals(book):
        if is_less(least_number(book, goal), least_number(other, goal)):
            return goal
    return None


def entries(book):
    """Return the list, in order, of all entries of a book."""
    deeds = [("deed", number) for number in range(len(book.deeds()))]
    hearings = [("hearing", number) for number in range(len(book.hearings()))]
    return deeds + hearings + [("lost", sound) for sound in sorted(book.lost())]


def is_entry(book, value):
    """Return whether any value is an entry of a book."""
    if not isinstance(value, tuple) or len(value) != 2:
        return False
    kind, item = value
    if kind == "lost":
        return item in book.lost()
    if kind not in ["deed", "hearing"] or not is_whole(item):
        return False
    return 0 <= item < len(book.deeds() if kind == "deed" else book.hearings())


def without(book, entry):
    """Return the book with one entry of a book taken out."""
    check_book(book)
    if not is_entry(book, entry):
        raise InvalidItem(entry)
    kind, item = entry
    deeds = book.deeds()
    hearings = book.hearings()
    lost = book.lost()
    if kind == "deed":
        del deeds[item]
    elif kind == "hearing":
        del hearings[item]
    else:
        lost.remove(item)
    return Book(book.houses(), book.stands(), deeds, hearings, lost)


def spare(book):
    """Return the list, in order, of the entries each of which could, alone, go without a change of the table."""
    rows = table(book)
    return [entry for entry in entries(book) if table(without(book, entry)) == rows]
