"""[25]: beginnings and least numbers; [1] to [3] as far as they speak of these."""
import copy
import unittest

from hushedasks.books import Book
from hushedasks.errors import InvalidBook, InvalidGoal, InvalidNumber
from hushedasks.lots import comes_to
from hushedasks.numbers import beginning, least_number, run_to
from hushedasks.runs import is_run, led
from samples import Case, any_values, mend_book, run_example, wrong_counts, wrong_lots

EXAMPLE = """
from hushedasks.books import Book
from hushedasks.numbers import beginning, least_number, run_to
deeds = [("lacks", "ask", "waits"), ("mends", "mend", "idle")]
hearings = [("lacks", "ask", "waits"), ("idle", "ask", "mends"), ("lacks", "mend", "has"), ("waits", "mend", "has")]
book = Book(["idle", "mends"], ["lacks", "waits", "has"], deeds, hearings, ["mend"])
[least_number(book, ("mends", [0, 2, 0])), run_to(book, ("idle", [0, 0, 1])), least_number(book, ("mends", [0, 1, 1])), beginning(book, 2)]
# [2, [('deed', 0, None), ('deed', 1, (0, 0, 1, 0))], None, ('idle', [2, 0, 0])]
"""


def chain_book(lost=()):
    """A book in which the house needs a listener at a for each of its two steps, and the last lets go the others."""
    deeds = [("a", "one", "b"), ("a", "two", "b"), ("h", "end", "h")]
    hearings = [("f", "one", "g"), ("g", "two", "h"), ("a", "end", "c"), ("b", "end", "c")]
    return Book(["f", "g", "h"], ["a", "b", "c"], deeds, hearings, list(lost))


class TestExample(Case):
    def test_of_the_document(self):
        given, asked = run_example(EXAMPLE)
        self.assertEqual(given, asked)


class TestBeginning(Case):
    def test_all_stand_at_the_first_of_their_standings(self):
        book = Book(["z", "a"], ["y", "b", "c", "d"], [], [], [])
        for many in (0, 1, 10, 11, 10 ** 30):
            self.same(beginning(book, many), ("z", [many, 0, 0, 0]))
        self.same(beginning(Book(["z"], ["y"], [], [], []), 3), ("z", [3]))

    def test_what_is_no_number(self):
        for value in any_values() + [-2, mend_book(), [2], "2", (2,)]:
            if isinstance(value, bool) or not isinstance(value, int) or value < 0:
                self.raises(InvalidNumber, value, beginning, mend_book(), value)


class TestLeastNumber(Case):
    def test_what_is_there_from_the_beginning(self):
        book = mend_book()
        self.same(least_number(book, ("idle", [0, 0, 0])), 0)
        self.same(least_number(book, (None, [0, 0, 0])), 0)
        self.same(least_number(book, (None, [3, 0, 0])), 3)
        for goal in (("idle", [0, 0, 0]), (None, [0, 0, 0]), (None, [3, 0, 0])):
            self.same(run_to(book, goal), [])

    def test_what_the_house_comes_to_without_listeners(self):
        book = Book(["f", "g", "h"], ["a"], [("f", None, "g"), ("g", "cry", "h")], [("a", "cry", "a")], ["cry"])
        self.same(least_number(book, ("h", [0])), 0)
        self.same(run_to(book, ("h", [0])), [("deed", 0, None), ("deed", 1, (0, 0))])
        self.same(least_number(book, ("h", [2])), 2)
        self.assertIsNone(least_number(Book(["f", "g"], ["a"], [], [], []), ("g", [0])))
        self.assertIsNone(run_to(Book(["f", "g"], ["a"], [], [], []), ("g", [0])))

    def test_listeners_that_are_needed_on_the_way_alone(self):
        for lost in ([], ["one"], ["one", "two", "end"]):
            book = chain_book(lost)
            self.same(least_number(book, ("g", [0, 0, 0])), 1)
            self.same(least_number(book, ("h", [0, 0, 0])), 2)
            self.same(least_number(book, ("h", [1, 2, 0])), 3)
            self.same(least_number(book, ("h", [1, 0, 1])), 3 if "end" in lost else None)
            self.same(least_number(book, ("h", [0, 0, 3])), 3)

    def test_asks_that_hush(self):
        for lost in ([], ["mend"]):
            self.same(least_number(mend_book(lost), ("mends", [0, 2, 0])), 2)
            self.assertIsNone(least_number(mend_book(lost), ("mends", [1, 1, 0])))
        self.same(least_number(mend_book(["ask"]), ("mends", [1, 1, 0])), 2)
        self.same(least_number(mend_book(["ask"]), ("mends", [0, 1, 2])), None)
        self.same(least_number(mend_book(["ask", "mend"]), ("mends", [0, 1, 2])), 3)

    def test_the_beginning_is_the_first_of_each_list(self):
        for houses in (["g", "h"], ["h", "g"]):
            for stands in (["a", "b"], ["b", "a"]):
                book = Book(houses, stands, [], [], [])
                for house in ("g", "h"):
                    for counts in ([1, 0], [0, 1], [1, 1]):
                        there = house == houses[0] and counts == [1, 0]
                        self.same(least_number(book, (house, counts)), 1 if there else None)

    def test_a_greater_number_does_too_and_a_less_one_does_not(self):
        for book, goal in ((mend_book(["ask"]), ("mends", [1, 1, 0])), (chain_book(), ("h", [1, 2, 0])),
                           (chain_book(["end"]), ("h", [1, 0, 1]))):
            number = least_number(book, goal)
            for many in range(7):
                self.assertIs(comes_to(book, beginning(book, many), goal) is not None, many >= number)


class TestRunTo(Case):
    def test_it_leads_there_with_as_few_events_as_can_be(self):
        for lost in ([], ["one"], ["two", "end"], ["one", "two", "end"]):
            book = chain_book(lost)
            for goal, events in ((("g", [0, 0, 0]), 1), (("g", [0, 1, 0]), 1), (("h", [0, 0, 0]), 2), (("h", [0, 2, 0]), 2),
                                 (("h", [1, 2, 0]), 2), (("h", [0, 0, 3]), 3), ((None, [0, 0, 1]), 3)):
                run = run_to(book, goal)
                begin = beginning(book, least_number(book, goal))
                self.assertIs(is_run(book, begin, run), True)
                self.assertEqual(len(run), events)
                house, counts = led(book, begin, run)
                self.assertIn(goal[0], (None, house))
                self.assertTrue(all(x >= y for x, y in zip(counts, goal[1])))

    def test_none_exactly_where_there_is_no_number(self):
        for goal in ((None, [0, 0, 1]), ("mends", [0, 1, 1]), ("mends", [1, 0, 0]), ("idle", [1, 0, 1]), ("idle", [0, 1, 1])):
            for lost in ([], ["ask"], ["mend"], ["ask", "mend"]):
                book = mend_book(lost)
                self.assertIs(run_to(book, goal) is None, least_number(book, goal) is None)


class TestErrors(Case):
    def test_books(self):
        for value in any_values() + [["idle"], Book]:
            for call in (least_number, run_to):
                self.raises(InvalidBook, value, call, value, ("idle", [1, 0, 0]))
                self.raises(InvalidBook, value, call, value, None)
            self.raises(InvalidBook, value, beginning, value, 1)
            self.raises(InvalidBook, value, beginning, value, -1)

    def test_goals(self):
        for value in wrong_lots() + [(None, counts) for counts in wrong_counts()]:
            for call in (least_number, run_to):
                self.raises(InvalidGoal, value, call, mend_book(), value)


class TestArguments(Case):
    def test_by_name(self):
        self.same(beginning(many=2, book=mend_book()), ("idle", [2, 0, 0]))
        self.same(least_number(goal=(None, [1, 0, 0]), book=mend_book()), 1)
        self.same(run_to(goal=(None, [1, 0, 0]), book=mend_book()), [])

    def test_they_are_not_changed(self):
        book, goal = mend_book(), ("mends", [0, 2, 0])
        before = copy.deepcopy(goal)
        least_number(book, goal), run_to(book, goal)
        self.assertEqual(goal, before)
        self.assertTrue(book == mend_book())

    def test_what_is_returned_belongs_to_the_caller(self):
        book, goal = mend_book(), ("idle", [0, 0, 1])
        first, second = beginning(book, 2), beginning(book, 2)
        self.no_list_twice([first, second])
        first[1].append(7)
        self.same(beginning(book, 2), second)
        first, second = run_to(book, goal), run_to(book, goal)
        self.same(first, second)
        self.assertIsNot(first, second)
        first.append(None)
        self.same(run_to(book, goal), second)


if __name__ == "__main__":
    unittest.main()
