"""The lots with which all begins."""


def beginning_with(book, many):
    """Return the lot with so many listeners in which all stand at the first of their standings."""
    return (book.houses()[0], [many] + [0 for _ in book.stands()[1:]])


def is_under_beginning(book, lot):
    """Return whether some beginning is at least a lot."""
    house, counts = lot
    return house == book.houses()[0] and sum(counts[1:]) == 0
