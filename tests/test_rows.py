"""[30] and [31]: rows and logs; [1] to [3] as far as they speak of these."""
import copy
import unittest

from hushedasks.books import Book
from hushedasks.errors import InvalidBook, InvalidItem, InvalidList
from hushedasks.numbers import beginning
from hushedasks.rows import least_for_log, least_for_row, run_of_log, run_of_row
from hushedasks.runs import is_run
from samples import Case, any_values, mend_book, run_example

EXAMPLE = """
from hushedasks.books import Book
from hushedasks.rows import least_for_log, least_for_row, run_of_log, run_of_row
deeds = [("lacks", "ask", "waits"), ("mends", "mend", "idle")]
hearings = [("lacks", "ask", "waits"), ("idle", "ask", "mends"), ("lacks", "mend", "has"), ("waits", "mend", "has")]
book = Book(["idle", "mends"], ["lacks", "waits", "has"], deeds, hearings, ["ask"])
[least_for_row(book, ["ask", "ask"]), len(run_of_row(book, ["ask", "ask"])), least_for_row(book, ["mend", "mend"]), least_for_log(book, ["ask", "ask", "mend"]), run_of_log(book, ["mend"])]
# [2, 2, None, 2, None]
"""


def steps_book():
    """A book in which one listener says x, nothing, y, and then for ever z, each at its place."""
    deeds = [("a", "x", "b"), ("b", None, "c"), ("c", "y", "d"), ("d", "z", "d")]
    return Book(["h"], ["a", "b", "c", "d"], deeds, [], [])


def sounds_of(book, run):
    """The sounds of a run's deeds, but for those without a sound."""
    said = [book.deeds()[event[1]][1] for event in run if event[0] == "deed"]
    return [sound for sound in said if sound is not None]


def bears(sounds, row):
    left = iter(sounds)
    return all(name in left for name in row)


class RowCase(Case):
    def check_row(self, book, row, number, events):
        """Check both functions of a row."""
        self.same(least_for_row(book, row), number)
        run = run_of_row(book, row)
        if number is None:
            self.assertIsNone(run)
            return
        self.assertIs(is_run(book, beginning(book, number), run), True)
        self.assertEqual(len(run), events)
        self.assertTrue(bears(sounds_of(book, run), row))

    def check_log(self, book, log, number, events):
        """Check both functions of a log."""
        self.same(least_for_log(book, log), number)
        run = run_of_log(book, log)
        if number is None:
            self.assertIsNone(run)
            return
        self.assertIs(is_run(book, beginning(book, number), run), True)
        self.assertEqual(len(run), events)
        self.assertEqual(sounds_of(book, run), log)


class TestExample(RowCase):
    def test_of_the_document(self):
        given, asked = run_example(EXAMPLE)
        self.assertEqual(given, asked)


class TestRows(RowCase):
    def test_of_one_of_two_and_of_three_names(self):
        book = steps_book()
        self.check_row(book, ["x"], 1, 1)
        self.check_row(book, ["y"], 1, 3)
        self.check_row(book, ["z"], 1, 4)
        self.check_row(book, ["x", "y"], 1, 3)
        self.check_row(book, ["x", "z"], 1, 4)
        self.check_row(book, ["z", "z"], 1, 5)
        self.check_row(book, ["x", "y", "z"], 1, 4)
        self.check_row(book, ["z", "z", "z"], 1, 6)

    def test_what_comes_of_several_listeners(self):
        book = steps_book()
        self.check_row(book, ["x", "x"], 2, 2)
        self.check_row(book, ["y", "x"], 2, 4)
        self.check_row(book, ["x", "x", "x"], 3, 3)
        self.check_row(book, ["y", "y", "x"], 3, 7)
        self.check_row(book, ["z", "y", "x"], 3, 8)
        self.check_row(book, ["z", "x", "y"], 2, 7)

    def test_a_sound_that_nobody_says(self):
        book = steps_book()
        for row in (["w"], ["x", "w"], ["w", "x"], ["x", "w", "y"], ["z", "z", "w"]):
            self.check_row(book, row, None, None)
        self.check_row(Book(["h"], ["a"], [], [("a", "x", "a"), ("h", "x", "h")], ["x"]), ["x"], None, None)

    def test_two_asks_for_one_lack(self):
        for lost in ([], ["mend"]):
            self.check_row(mend_book(lost), ["ask", "ask"], None, None)
            self.check_row(mend_book(lost), ["ask", "mend"], 1, 2)
            self.check_row(mend_book(lost), ["mend", "ask"], None, None)
        for lost in (["ask"], ["ask", "mend"]):
            self.check_row(mend_book(lost), ["ask", "ask"], 2, 2)
            self.check_row(mend_book(lost), ["ask", "ask", "ask"], 3, 3)
        self.check_row(mend_book(["ask"]), ["ask", "mend", "ask"], None, None)
        self.check_row(mend_book(["ask", "mend"]), ["ask", "mend", "ask"], 2, 3)
        self.check_row(mend_book(["ask", "mend"]), ["mend", "mend"], 2, 4)
        self.check_row(mend_book(["ask", "mend"]), ["mend", "mend", "mend"], 3, 6)

    def test_sounds_of_the_house_need_no_listener(self):
        book = Book(["g", "h"], ["a"], [("g", "x", "h"), ("h", None, "g"), ("h", "y", "h")], [("a", "x", "a")], ["x"])
        self.check_row(book, ["x", "x"], 0, 3)
        self.check_row(book, ["y", "x", "y"], 0, 5)

    def test_a_sound_of_the_row_may_come_more_often(self):
        # y comes only behind two x.
        book = Book(["h"], ["a", "b", "c"], [("a", "x", "b"), ("b", "x", "c"), ("c", "y", "c")], [], [])
        self.check_row(book, ["x", "y"], 1, 3)
        self.check_row(book, ["x", "x", "y"], 1, 3)
        self.check_log(book, ["x", "y"], None, None)
        self.check_log(book, ["x", "x", "y"], 1, 3)

    def test_deeds_with_one_sound_at_several_places(self):
        book = Book(["h"], ["a", "b"], [("a", "x", "b"), ("b", "x", "a"), ("h", "x", "h")], [], [])
        self.check_row(book, ["x", "x", "x"], 0, 3)
        self.check_log(book, ["x", "x", "x"], 0, 3)

    def test_from_the_beginning_alone(self):
        book = Book(["g", "h"], ["a", "b"], [("h", "x", "h"), ("b", "y", "b")], [], [])
        for name in ("x", "y"):
            self.check_row(book, [name], None, None)
            self.check_log(book, [name], None, None)
            self.check_log(book, [], 0, 0)


class TestLogs(RowCase):
    def test_the_empty_log(self):
        for book in (steps_book(), mend_book(), Book(["h"], ["a"], [("h", "x", "h"), ("a", None, "a")], [], [])):
            self.same(least_for_log(book, []), 0)
            self.same(run_of_log(book, []), [])

    def test_just_these_sounds(self):
        book = steps_book()
        self.check_log(book, ["x"], 1, 1)
        self.check_log(book, ["y"], None, None)
        self.check_log(book, ["z"], None, None)
        self.check_log(book, ["x", "z"], None, None)
        self.check_log(book, ["x", "y", "z"], 1, 4)
        self.check_log(book, ["x", "y", "y"], None, None)
        self.check_log(book, ["x", "x", "y"], 2, 4)

    def test_deeds_without_a_sound_between_the_sounds(self):
        book = steps_book()
        self.check_log(book, ["x", "y"], 1, 3)
        self.check_log(book, ["x", "y", "x"], 2, 4)
        house = Book(["f", "g", "h"], ["a"], [("f", None, "g"), ("g", "x", "h"), ("h", None, "f")], [], [])
        self.check_log(house, ["x"], 0, 2)
        self.check_log(house, ["x", "x", "x"], 0, 8)

    def test_a_sound_that_nobody_says(self):
        for log in (["w"], ["x", "w"], ["w", "x"], ["x", "y", "w"]):
            self.check_log(steps_book(), log, None, None)

    def test_asks(self):
        book = mend_book(["ask"])
        self.check_log(book, ["ask"], 1, 1)
        self.check_log(book, ["mend"], None, None)
        self.check_log(book, ["ask", "ask"], 2, 2)
        self.check_log(book, ["ask", "ask", "mend"], 2, 3)
        self.check_log(mend_book(), ["ask", "ask", "mend"], None, None)
        self.check_log(mend_book(), ["ask", "mend"], 1, 2)


class TestErrors(RowCase):
    ROWS = (least_for_row, run_of_row)
    LOGS = (least_for_log, run_of_log)

    def test_books(self):
        for call in self.ROWS + self.LOGS:
            for value in any_values() + [["idle"], Book]:
                self.raises(InvalidBook, value, call, value, ["ask"])
                self.raises(InvalidBook, value, call, value, None)
                self.raises(InvalidBook, value, call, value, [None])

    def test_lists(self):
        for call in self.ROWS + self.LOGS:
            for value in any_values() + [mend_book(), ("ask",), "ask", {"ask": 1}]:
                if not isinstance(value, list):
                    self.raises(InvalidList, value, call, mend_book(), value)
            for value in (["ask"] * 4, [None] * 4, ["ask", "mend", "x", "y"], ["A"] * 5):
                self.raises(InvalidList, value, call, mend_book(), value)

    def test_no_name_and_no_row(self):
        value = []
        for call in self.ROWS:
            self.raises(InvalidList, value, call, mend_book(), value)

    def test_three_names(self):
        for call in self.ROWS + self.LOGS:
            self.assertIsNone(call(mend_book(), ["mend", "mend", "mend"]))

    def test_items(self):
        for call in self.ROWS + self.LOGS:
            for value in any_values() + [mend_book(), "ASK", "a b", "abcdefghi", ["ask"], ("ask",)]:
                for items in ([value], ["ask", value], [value, None, 3], ["gone", "ask", value]):
                    self.raises(InvalidItem, value, call, mend_book(), items)

    def test_names_of_one_and_of_eight_letters(self):
        book = Book(["h"], ["a"], [("a", "x", "a"), ("a", "abcdefgh", "a")], [], [])
        for call in (least_for_row, least_for_log):
            self.same(call(book, ["x", "abcdefgh", "x"]), 1)


class TestArguments(RowCase):
    def test_by_name(self):
        book = mend_book()
        self.same(least_for_row(row=["ask"], book=book), 1)
        self.same(run_of_row(row=["ask"], book=book), [("deed", 0, None)])
        self.same(least_for_log(log=["ask"], book=book), 1)
        self.same(run_of_log(log=["ask"], book=book), [("deed", 0, None)])

    def test_they_are_not_changed_and_what_is_returned_belongs_to_the_caller(self):
        book, sounds = mend_book(["ask", "mend"]), ["ask", "mend", "ask"]
        before = copy.deepcopy(sounds)
        for call in (least_for_row, least_for_log):
            self.same(call(book, sounds), call(book, sounds))
        for call in (run_of_row, run_of_log):
            first, second = call(book, sounds), call(book, sounds)
            self.same(first, second)
            self.no_list_twice([first, second, sounds])
            first.append(None)
            self.same(call(book, sounds), second)
        self.assertEqual(sounds, before)
        self.assertTrue(book == mend_book(["ask", "mend"]))


if __name__ == "__main__":
    unittest.main()
