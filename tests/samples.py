"""Books, values and checks that several tests share."""
import unittest

from hushedasks.books import Book
from hushedasks.errors import HushError, InvalidList
from hushedasks.library import Library
from hushedasks.live import Live

DEEDS = [("lacks", "ask", "waits"), ("mends", "mend", "idle")]
HEARINGS = [
    ("lacks", "ask", "waits"),
    ("idle", "ask", "mends"),
    ("lacks", "mend", "has"),
    ("waits", "mend", "has"),
]


def mend_book(lost=("mend",)):
    """The book of the document's examples, with these sounds that can be lost."""
    return Book(["idle", "mends"], ["lacks", "waits", "has"], list(DEEDS), list(HEARINGS), list(lost))


def nested(depth):
    """A list nested so deep."""
    value = []
    for _ in range(depth - 1):
        value = [value]
    return value


def any_values():
    """Values of every kind that callers may pass, none of them a book, a name or a lot."""
    return [
        None, True, False, 0, 1, -1, 10 ** 30, "", "A", "no name", "toolongname", "\u00e4",
        [], [0], [[]], [None], ["A"], (), (0,), ((), ()), ("idle",), ("idle", 1), {}, {"a": 1}, {1: [2]},
        HushError(), InvalidList([1]), nested(30), Live(mend_book()), Library(),
    ]


def wrong_counts():
    """What does not stand as the counts of a lot or a goal of a book of three stands."""
    return any_values() + [
        mend_book(), (1, 0, 0), [1, 0], [1, 0, 0, 0], [1, 0, -1], [True, 0, 0], [1, 0, False], ["1", 0, 0],
        [1, 0, None], [[1], 0, 0], {0: 1, 1: 0, 2: 0},
    ]


def wrong_lots():
    """What is neither a lot nor a goal of `mend_book`."""
    return any_values() + [("idle", counts) for counts in wrong_counts()] + [
        mend_book(), ["idle", [1, 0, 0]], ("lacks", [1, 0, 0]), ("gone", [1, 0, 0]), (True, [1, 0, 0]),
        (["idle"], [1, 0, 0]), ({}, [1, 0, 0]), (mend_book(), [1, 0, 0]), ("idle", [1, 0, 0], []), ("idle",), (),
    ]


class Case(unittest.TestCase):
    """A test with some more checks."""

    def same(self, given, asked):
        """Check equality, and that no kind is another (True == 1)."""
        self.assertEqual(repr(given), repr(asked))

    def raises(self, kind, field, call, *arguments, **named):
        """Check that a call raises just this kind of error, with this very field."""
        with self.assertRaises(HushError) as caught:
            call(*arguments, **named)
        self.assertIs(type(caught.exception), kind)
        self.assertIs(list(vars(caught.exception).values())[0], field)

    def made_of_plain_kinds(self, value):
        """Check that a value is made of what may be returned, of just these kinds."""
        self.assertIn(type(value), (type(None), bool, int, str, list, tuple, Book, Live, Library))
        if isinstance(value, (list, tuple)):
            for item in value:
                self.made_of_plain_kinds(item)

    def no_list_twice(self, value):
        """Check that no list object occurs twice in a value."""
        seen, left = [], [value]
        while left:
            one = left.pop()
            if isinstance(one, list):
                self.assertFalse([other for other in seen if other is one])
                seen.append(one)
            if isinstance(one, (list, tuple)):
                left.extend(one)


def run_example(text):
    """Run an example of the document: its last line but one is computed, the last tells what comes out.

    Returns both as texts.
    """
    lines = text.strip().split("\n")
    names = {}
    exec("\n".join(lines[:-2]), names)
    assert lines[-1].startswith("# ")
    return repr(eval(lines[-2], names)), lines[-1][2:]
