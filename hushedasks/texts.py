"""Texts: books written down in lines, and read again."""

from hushedasks.books import Book, check_book
from hushedasks.errors import InvalidItem, InvalidList, InvalidText

# What stands in a deed for no sound.
NO_SOUND = "_"


def text_of(book):
    """Return the text of a book."""
    check_book(book)
    rows = [["houses"] + book.houses(), ["stands"] + book.stands()]
    for place, sound, other in book.deeds():
        rows.append(["deed", place, NO_SOUND if sound is None else sound, other])
    for place, sound, other in book.hearings():
        rows.append(["hear", place, sound, other])
    if len(book.lost()) > 0:
        rows.append(["lost"] + book.lost())
    return "\n".join([" ".join(row) for row in rows])


def rows_of(text):
    """Return the list of the parts of each line of a text that has any."""
    # Only line ends and blanks part anything; all other white space belongs to the parts.
    rows = [[part for part in line.split(" ") if part != ""] for line in text.split("\n")]
    return [row for row in rows if len(row) > 0]


def parted(rows, word):
    """Return the rows ahead of the first one that does not begin with a word, without this word, and the rest."""
    many = 0
    while many < len(rows) and rows[many][0] == word:
        many += 1
    return [row[1:] for row in rows[:many]], rows[many:]


def deed_of(parts):
    """Return the deed of its parts in a text, which may be too few or too many for a deed."""
    if len(parts) == 3 and parts[1] == NO_SOUND:
        return (parts[0], None, parts[2])
    return tuple(parts)


def read_book(text):
    """Return the book of a text."""
    if not isinstance(text, str):
        raise InvalidText(text)
    houses, rows = parted(rows_of(text), "houses")
    stands, rows = parted(rows, "stands")
    deeds, rows = parted(rows, "deed")
    hearings, rows = parted(rows, "hear")
    lost, rows = parted(rows, "lost")
    if len(houses) != 1 or len(stands) != 1 or len(lost) > 1 or [] in lost or len(rows) > 0:
        raise InvalidText(text)
    told_deeds = [deed_of(parts) for parts in deeds]
    told_hearings = [tuple(parts) for parts in hearings]
    told_lost = lost[0] if len(lost) > 0 else []
    try:
        return Book(houses[0], stands[0], told_deeds, told_hearings, told_lost)
    except (InvalidItem, InvalidList):
        raise InvalidText(text) from None
