"""Books and values that several tests share."""
from hushedasks.books import Book
from hushedasks.errors import HushError, InvalidList

DEEDS = [("lacks", "ask", "waits"), ("mends", "mend", "idle")]
HEARINGS = [
    ("lacks", "ask", "waits"),
    ("idle", "ask", "mends"),
    ("lacks", "mend", "has"),
    ("waits", "mend", "has"),
]


def mend_book(lost=("mend",)):
    """The book of the document's examples, with these sounds that can be lost."""
    return Book(["idle", "mends"], ["lacks", "waits", "has"], list(DEEDS), list(HEARINGS), list(lost))


def nested(depth):
    """A list nested so deep."""
    value = []
    for _ in range(depth - 1):
        value = [value]
    return value


def any_values():
    """Values of every kind that callers may pass, none of them a book, a name or a lot."""
    return [
        None, True, False, 0, 1, -1, 10 ** 30, "", "A", "no name", "toolongname", "\u00e4",
        [], [0], [[]], [None], ["A"], (), (0,), ((), ()), ("idle",), ("idle", 1), {}, {"a": 1}, {1: [2]},
        HushError(), InvalidList([1]), nested(30),
    ]


def run_example(text):
    """Run an example of the document: its last line but one is computed, the last tells what comes out.

    Returns both as texts.
    """
    lines = text.strip().split("\n")
    names = {}
    exec("\n".join(lines[:-2]), names)
    assert lines[-1].startswith("# ")
    return repr(eval(lines[-2], names)), lines[-1][2:]
