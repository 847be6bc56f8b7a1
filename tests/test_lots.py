"""[20] to [22]: goals, least lots and bars; [1] to [3] as far as they speak of these."""
import copy
import itertools
import unittest

from hushedasks.books import Book
from hushedasks.errors import InvalidBook, InvalidGoal, InvalidLot
from hushedasks.lots import bar, comes_to, is_bar, least_lots
from hushedasks.runs import is_run, led
from samples import Case, any_values, mend_book, run_example, wrong_counts, wrong_lots

EXAMPLE = """
from hushedasks.books import Book
from hushedasks.lots import bar, comes_to, is_bar, least_lots
deeds = [("lacks", "ask", "waits"), ("mends", "mend", "idle")]
hearings = [("lacks", "ask", "waits"), ("idle", "ask", "mends"), ("lacks", "mend", "has"), ("waits", "mend", "has")]
book = Book(["idle", "mends"], ["lacks", "waits", "has"], deeds, hearings, ["mend"])
goal = ("mends", [0, 1, 1])
[least_lots(book, goal), comes_to(book, ("mends", [1, 1, 0]), goal), is_bar(book, goal, least_lots(book, goal)), bar(book, ("idle", [0, 0, 1]))]
# [[('idle', [1, 0, 1]), ('mends', [0, 1, 1]), ('mends', [1, 0, 1]), ('mends', [1, 1, 0]), ('mends', [2, 0, 0])], [('deed', 1, (0, 0, 1, 0)), ('deed', 0, None)], True, None]
"""


def still_book(houses=("h",), stands=("a", "b")):
    """A book in which nothing is ever done."""
    return Book(list(houses), list(stands), [], [], [])


def hush_book(lost=()):
    """A book in which whoever hears `ask` keeps still, at c."""
    return Book(["h"], ["a", "b", "c"], [("a", "ask", "b")], [("a", "ask", "c")], list(lost))


class TestExample(Case):
    def test_of_the_document(self):
        given, asked = run_example(EXAMPLE)
        self.assertEqual(given, asked)


class TestLeastLots(Case):
    def test_where_nothing_is_done_a_goal_is_its_own_least_lot(self):
        book = still_book(["g", "h"], ["b", "a"])
        self.same(least_lots(book, ("h", [1, 2])), [("h", [1, 2])])
        self.same(least_lots(book, ("h", [0, 0])), [("h", [0, 0])])

    def test_a_goal_without_a_house(self):
        book = still_book(["hb", "ha", "hc"])
        self.same(least_lots(book, (None, [1, 0])), [("ha", [1, 0]), ("hb", [1, 0]), ("hc", [1, 0])])
        self.same(least_lots(book, (None, [0, 0])), [("ha", [0, 0]), ("hb", [0, 0]), ("hc", [0, 0])])
        self.same(least_lots(mend_book(), (None, [0, 0, 0])), [("idle", [0, 0, 0]), ("mends", [0, 0, 0])])

    def test_a_goal_of_no_listener(self):
        # The house is asked by a listener that nobody needs otherwise.
        self.same(least_lots(mend_book(), ("mends", [0, 0, 0])), [("idle", [1, 0, 0]), ("mends", [0, 0, 0])])
        self.same(least_lots(mend_book(), ("idle", [0, 0, 0])), [("idle", [0, 0, 0]), ("mends", [0, 0, 0])])

    def test_a_deed_without_a_sound_moves_only_who_does_it(self):
        book = Book(["h"], ["a", "b"], [("a", None, "b")], [], [])
        self.same(least_lots(book, ("h", [0, 2])), [("h", [0, 2]), ("h", [1, 1]), ("h", [2, 0])])
        self.same(least_lots(book, ("h", [1, 1])), [("h", [1, 1]), ("h", [2, 0])])
        house = Book(["g", "h"], ["a", "b"], [("g", None, "h")], [], [])
        self.same(least_lots(house, ("h", [0, 1])), [("g", [0, 1]), ("h", [0, 1])])
        self.same(least_lots(house, ("g", [0, 1])), [("g", [0, 1])])

    def test_who_hears_what_cannot_be_lost_is_hushed(self):
        self.same(least_lots(hush_book(), ("h", [0, 2, 0])), [("h", [0, 2, 0]), ("h", [1, 1, 0])])
        self.same(least_lots(hush_book(), ("h", [0, 1, 2])), [("h", [0, 1, 2]), ("h", [1, 0, 2]), ("h", [2, 0, 1]),
                                                             ("h", [3, 0, 0])])

    def test_who_does_not_hear_what_can_be_lost_is_not(self):
        self.same(least_lots(hush_book(["ask"]), ("h", [0, 2, 0])),
                  [("h", [0, 2, 0]), ("h", [1, 1, 0]), ("h", [2, 0, 0])])

    def test_a_sound_that_nobody_hears(self):
        for lost in ([], ["cry"], ["other"]):
            book = Book(["h"], ["a", "b"], [("a", "cry", "b")], [("a", "other", "b"), ("h", "other", "h")], lost)
            self.same(least_lots(book, ("h", [0, 2])), [("h", [0, 2]), ("h", [1, 1]), ("h", [2, 0])])

    def test_the_house_hears_a_listener(self):
        deeds, hearings = [("a", "cry", "a")], [("g", "cry", "h")]
        for lost in ([], ["cry"]):
            book = Book(["g", "h"], ["a"], deeds, hearings, lost)
            self.same(least_lots(book, ("h", [0])), [("g", [1]), ("h", [0])])
            self.same(least_lots(book, ("g", [2])), [("g", [2])])

    def test_a_house_that_does_not_hear_stays(self):
        deeds, hearings = [("a", "cry", "b")], [("g", "cry", "h")]
        self.same(least_lots(Book(["g", "h"], ["a", "b"], deeds, hearings, []), ("g", [0, 1])), [("g", [0, 1])])
        self.same(least_lots(Book(["g", "h"], ["a", "b"], deeds, hearings, ["cry"]), ("g", [0, 1])),
                  [("g", [0, 1]), ("g", [1, 0])])

    def test_the_house_does_not_hear_itself(self):
        book = Book(["f", "g", "h"], ["a", "b"], [("f", "cry", "g")], [("f", "cry", "h"), ("g", "cry", "h"),
                                                                      ("a", "cry", "b")], [])
        self.same(least_lots(book, ("h", [0, 0])), [("h", [0, 0])])
        self.same(least_lots(book, ("g", [0, 2])), [("f", [0, 2]), ("f", [1, 1]), ("f", [2, 0]), ("g", [0, 2])])
        self.same(least_lots(book, ("g", [1, 0])), [("g", [1, 0])])

    def test_who_says_it_does_not_hear_it(self):
        book = Book(["h"], ["a", "b", "c"], [("a", "cry", "b")], [("a", "cry", "c"), ("b", "cry", "c")], [])
        self.same(least_lots(book, ("h", [0, 1, 0])), [("h", [0, 1, 0]), ("h", [1, 0, 0])])

    def test_all_hear_at_once_and_go_one_place_on(self):
        book = Book(["h"], ["a", "b", "c"], [("h", "cry", "h")], [("a", "cry", "b"), ("b", "cry", "c")], [])
        self.same(least_lots(book, ("h", [0, 1, 1])), [("h", [0, 1, 1]), ("h", [1, 0, 1]), ("h", [1, 1, 0])])

    def test_one_listener_more_whose_place_behind_is_not_needed(self):
        book = Book(["h"], ["a", "b"], [("a", "cry", "a")], [("b", "cry", "a")], [])
        self.same(least_lots(book, ("h", [2, 0])), [("h", [1, 1]), ("h", [2, 0])])
        self.same(least_lots(book, ("h", [0, 1])), [("h", [0, 1])])
        other = Book(["h"], ["a", "b", "c"], [("a", "cry", "c")], [("b", "cry", "a")], [])
        self.same(least_lots(other, ("h", [1, 0, 0])), [("h", [1, 0, 0])])
        self.same(least_lots(other, ("h", [2, 0, 0])), [("h", [1, 2, 0]), ("h", [2, 0, 0])])
        third = Book(["h"], ["a", "b", "c"], [("a", "cry", "a")], [("b", "cry", "c")], [])
        self.same(least_lots(third, ("h", [0, 0, 1])), [("h", [0, 0, 1]), ("h", [1, 1, 0])])

    def test_equal_deeds(self):
        deeds = [("a", None, "b"), ("a", None, "b")]
        self.same(least_lots(Book(["h"], ["a", "b"], deeds, [], []), ("h", [0, 1])), [("h", [0, 1]), ("h", [1, 0])])

    def test_in_order_of_names_and_counts_each_once(self):
        found = least_lots(mend_book(["ask", "mend"]), (None, [0, 1, 2]))
        self.assertEqual(found, sorted(found))
        self.assertEqual(len(found), len({repr(lot) for lot in found}))
        self.assertEqual({lot[0] for lot in found}, {"idle", "mends"})


class TestComesTo(Case):
    def test_no_event_where_the_lot_is_at_least_the_goal(self):
        for lot in (("mends", [0, 1, 1]), ("mends", [3, 1, 2])):
            self.same(comes_to(mend_book(), lot, ("mends", [0, 1, 1])), [])
        self.same(comes_to(mend_book(), ("mends", [0, 1, 1]), (None, [0, 0, 0])), [])
        self.same(comes_to(still_book(), ("h", [0, 0]), ("h", [0, 0])), [])

    def test_none_where_there_is_none(self):
        self.assertIsNone(comes_to(still_book(), ("h", [5, 0]), ("h", [0, 1])))
        self.assertIsNone(comes_to(mend_book(), ("idle", [6, 0, 0]), ("mends", [0, 1, 1])))
        self.assertIsNone(comes_to(mend_book(), ("idle", [0, 0, 0]), ("mends", [0, 0, 0])))
        self.assertIsNone(comes_to(mend_book(), ("mends", [0, 1, 0]), ("mends", [0, 0, 2])))
        self.assertIsNone(comes_to(hush_book(), ("h", [6, 0, 0]), ("h", [0, 2, 0])))

    def test_the_only_run_with_so_few_events(self):
        self.same(comes_to(hush_book(["ask"]), ("h", [2, 0, 0]), ("h", [0, 2, 0])),
                  [("deed", 0, (0, 0, 0, 0)), ("deed", 0, (0, 0, 0, 0))])
        self.same(comes_to(hush_book(["ask"]), ("h", [3, 0, 0]), ("h", [0, 1, 2])), [("deed", 0, (0, 2, 0, 0))])
        self.same(comes_to(hush_book(), ("h", [3, 0, 0]), ("h", [0, 1, 2])), [("deed", 0, None)])

    def test_a_long_way_and_a_short_one(self):
        deeds = [("a", None, "b"), ("b", None, "c"), ("c", None, "d"), ("a", "leap", "d")]
        book = Book(["h"], ["a", "b", "c", "d"], deeds, [], ["leap"])
        self.same(comes_to(book, ("h", [1, 0, 0, 0]), ("h", [0, 0, 0, 1])), [("deed", 3, (0, 0, 0, 0, 0))])
        self.same(comes_to(book, ("h", [0, 1, 0, 0]), ("h", [0, 0, 0, 1])), [("deed", 1, None), ("deed", 2, None)])
        self.assertEqual(len(comes_to(book, ("h", [1, 1, 1, 0]), ("h", [0, 0, 0, 3]))), 4)

    def test_the_house_hears_or_not(self):
        book = Book(["g", "h"], ["a", "b"], [("a", "cry", "b")], [("g", "cry", "h"), ("h", "cry", "g")], ["cry"])
        self.same(comes_to(book, ("g", [1, 0]), ("h", [0, 1])), [("deed", 0, (1, 0, 0))])
        self.same(comes_to(book, ("g", [1, 0]), ("g", [0, 1])), [("deed", 0, (0, 0, 0))])
        self.same(comes_to(book, ("h", [1, 0]), ("g", [0, 1])), [("deed", 0, (1, 0, 0))])

    def test_agrees_with_least_lots_for_each_small_lot(self):
        for lost, goal in itertools.product((["mend"], [], ["ask", "mend"]), (("mends", [0, 1, 1]), (None, [1, 0, 1]))):
            book = mend_book(lost)
            least = least_lots(book, goal)
            for house, counts in itertools.product(book.houses(), itertools.product(range(3), repeat=3)):
                lot = (house, list(counts))
                run = comes_to(book, lot, goal)
                good = any(house == low[0] and all(x >= y for x, y in zip(counts, low[1])) for low in least)
                self.assertIs(run is not None, good)
                if good:
                    self.assertIs(is_run(book, lot, run), True)
                    behind = led(book, lot, run)
                    self.assertIn(goal[0], (None, behind[0]))
                    self.assertTrue(all(x >= y for x, y in zip(behind[1], goal[1])))

    def test_lots_of_twelve_listeners(self):
        book = mend_book(["ask", "mend"])
        lot = ("idle", [12, 0, 0])
        run = comes_to(book, lot, ("mends", [0, 1, 2]))
        self.assertIs(is_run(book, lot, run), True)
        self.assertEqual(len(run), 3)


class TestBars(Case):
    def test_what_is_never_come_to_has_one(self):
        for book, goal in (
            (mend_book(), ("mends", [0, 1, 1])), (hush_book(), ("h", [0, 2, 0])), (still_book(), (None, [0, 1])),
            (still_book(["g", "h"]), ("h", [0, 0])),
        ):
            lots = bar(book, goal)
            self.assertIs(type(lots), list)
            self.assertIs(is_bar(book, goal, lots), True)
            self.assertIs(is_bar(book, goal, least_lots(book, goal)), True)

    def test_what_can_be_come_to_has_none(self):
        for book, goal in (
            (mend_book(), ("idle", [0, 0, 1])), (hush_book(["ask"]), ("h", [0, 2, 0])), (still_book(), (None, [3, 0])),
            (still_book(), ("h", [0, 0])), (still_book(), (None, [0, 0])), (mend_book([]), ("mends", [0, 2, 0])),
            (Book(["g", "h"], ["a"], [("g", None, "h")], [], []), ("h", [0])),
        ):
            self.assertIsNone(bar(book, goal))
            self.assertIs(is_bar(book, goal, least_lots(book, goal)), False)

    def test_each_lot_at_least_the_goal_has_to_be_at_least_one(self):
        book = still_book(["g", "h"], ["a", "b"])
        self.assertIs(is_bar(book, ("h", [0, 1]), [("h", [0, 1])]), True)
        self.assertIs(is_bar(book, ("h", [0, 1]), [("h", [0, 2])]), False)
        self.assertIs(is_bar(book, ("h", [0, 1]), [("h", [1, 1])]), False)
        self.assertIs(is_bar(book, ("h", [0, 1]), [("g", [0, 1])]), False)
        self.assertIs(is_bar(book, ("h", [0, 1]), []), False)
        self.assertIs(is_bar(book, (None, [0, 1]), [("h", [0, 1])]), False)
        self.assertIs(is_bar(book, (None, [0, 1]), [("g", [0, 1])]), False)
        self.assertIs(is_bar(book, (None, [0, 1]), [("h", [0, 1]), ("g", [0, 1])]), True)
        self.assertIs(is_bar(book, (None, [0, 2]), [("h", [0, 1]), ("g", [0, 2])]), True)

    def test_so_has_each_from_which_a_deed_leads_to_such_a_one(self):
        book, goal = mend_book(), ("mends", [0, 1, 1])
        lots = least_lots(book, goal)
        self.assertIs(is_bar(book, goal, lots), True)
        for at in range(len(lots)):
            self.assertIs(is_bar(book, goal, lots[:at] + lots[at + 1:]), False)
        deeds = [("b", "cry", "c")]
        quiet = Book(["h"], ["a", "b", "c", "d"], deeds, [("d", "cry", "d")], ["cry"])
        self.assertIs(is_bar(quiet, ("h", [0, 0, 1, 0]), [("h", [0, 0, 1, 0])]), False)
        self.assertIs(is_bar(quiet, ("h", [0, 0, 1, 0]), [("h", [0, 0, 1, 0]), ("h", [0, 1, 0, 0])]), True)
        self.assertIs(is_bar(quiet, ("h", [0, 1, 0, 0]), [("h", [0, 1, 0, 0])]), True)

    def test_deeds_of_one_listener_more_lead_in_too(self):
        book = Book(["g", "h"], ["a", "b"], [("b", "cry", "b")], [("g", "cry", "h")], [])
        self.assertIs(is_bar(book, ("h", [0, 0]), [("h", [0, 0])]), False)
        self.assertIs(is_bar(book, ("h", [0, 0]), [("h", [0, 0]), ("g", [0, 1])]), True)
        self.assertIs(is_bar(book, ("h", [0, 0]), [("h", [0, 0]), ("g", [0, 2])]), False)

    def test_no_beginning_is_at_least_one(self):
        book = still_book(["g", "h"], ["a", "b"])
        goal = ("h", [0, 1])
        for lot, asked in (
            (("g", [0, 0]), False), (("g", [1, 0]), False), (("g", [6, 0]), False),
            (("g", [0, 1]), True), (("g", [6, 1]), True), (("h", [0, 0]), True), (("h", [6, 0]), True),
        ):
            self.assertIs(is_bar(book, goal, [("h", [0, 1]), lot]), asked)
            self.assertIs(is_bar(book, goal, [lot, ("h", [0, 1])]), asked)

    def test_falls_lead_in_nowhere(self):
        # From a lot of more listeners falls lead to one of the list; it is at least that one all the same.
        self.assertIs(is_bar(still_book(), ("h", [0, 2]), [("h", [0, 1])]), True)
        self.assertIs(is_bar(still_book(), ("h", [0, 2]), [("h", [0, 2])]), True)

    def test_it_need_not_be_least_nor_in_order(self):
        book, goal = mend_book(), ("mends", [0, 1, 1])
        lots = least_lots(book, goal)
        self.assertIs(is_bar(book, goal, lots[::-1]), True)
        self.assertIs(is_bar(book, goal, lots + lots), True)
        self.assertIs(is_bar(book, goal, lots + [("mends", [4, 0, 2]), ("idle", [1, 5, 1])]), True)
        # Lots that need not be in it, from which nothing leads anywhere.
        hush, goal = hush_book(), ("h", [0, 2, 0])
        self.same(least_lots(hush, goal), [("h", [0, 2, 0]), ("h", [1, 1, 0])])
        self.assertIs(is_bar(hush, goal, [("h", [1, 1, 0]), ("h", [1, 0, 1]), ("h", [0, 2, 0])]), True)
        self.assertIs(is_bar(hush, ("h", [1, 2, 0]), [("h", [1, 1, 0]), ("h", [0, 2, 0])]), True)

    def test_what_is_no_list_of_lots(self):
        book, goal = mend_book(), ("mends", [0, 1, 1])
        lots = least_lots(book, goal)
        self.assertIs(is_bar(book, goal, lots[0]), False)
        for value in any_values() + [book, tuple(lots), {lots[0][0]: lots}, list(lots[0])]:
            self.assertIs(is_bar(book, goal, value), False)
            self.assertIs(is_bar(book, goal, lots + [value]), False)
        for value in wrong_lots() + [(None, [0, 1, 1])]:
            self.assertIs(is_bar(book, goal, lots + [value]), False)
            self.assertIs(is_bar(book, goal, [value] + lots), False)
        for counts in wrong_counts():
            self.assertIs(is_bar(book, goal, lots + [("mends", counts)]), False)
        self.assertIs(is_bar(book, goal, [("mends", [0, True, 1])] + lots), False)

    def test_great_counts(self):
        many = 10 ** 30
        book, goal = still_book(["g", "h"]), ("h", [0, 1])
        self.assertIs(is_bar(book, goal, [("h", [0, 1]), ("g", [many, 1])]), True)
        self.assertIs(is_bar(book, goal, [("h", [0, many])]), False)
        # What is at least another one says nothing, however great it is.
        book, goal = mend_book(), ("mends", [0, 1, 1])
        lots = least_lots(book, goal)
        for great in (("mends", [many, many, many]), ("idle", [1, many, many])):
            self.assertIs(is_bar(book, goal, [great] + lots), True)
            self.assertIs(is_bar(book, goal, lots[1:] + [great]), False)


class TestErrors(Case):
    LOT = ("idle", [1, 0, 0])
    GOAL = ("idle", [1, 0, 0])

    def test_books(self):
        for value in any_values() + [["idle"], Book]:
            self.raises(InvalidBook, value, least_lots, value, self.GOAL)
            self.raises(InvalidBook, value, comes_to, value, self.LOT, self.GOAL)
            self.raises(InvalidBook, value, bar, value, self.GOAL)
            self.raises(InvalidBook, value, is_bar, value, self.GOAL, [])
            self.raises(InvalidBook, value, least_lots, value, None)
            self.raises(InvalidBook, value, comes_to, value, None, None)
            self.raises(InvalidBook, value, bar, value, None)
            self.raises(InvalidBook, value, is_bar, value, None, None)

    def test_lots(self):
        for value in wrong_lots() + [(None, [1, 0, 0])]:
            self.raises(InvalidLot, value, comes_to, mend_book(), value, self.GOAL)
            self.raises(InvalidLot, value, comes_to, mend_book(), value, None)

    def test_goals(self):
        book = mend_book()
        for value in wrong_lots() + [(None, counts) for counts in wrong_counts()] + [(False, [1, 0, 0]), (0, [1, 0, 0])]:
            self.raises(InvalidGoal, value, least_lots, book, value)
            self.raises(InvalidGoal, value, comes_to, book, self.LOT, value)
            self.raises(InvalidGoal, value, bar, book, value)
            self.raises(InvalidGoal, value, is_bar, book, value, [])
            self.raises(InvalidGoal, value, is_bar, book, value, None)


class TestArguments(Case):
    def test_by_name(self):
        book, goal = mend_book(), ("mends", [0, 1, 1])
        self.same(least_lots(goal=goal, book=book), least_lots(book, goal))
        self.same(comes_to(goal=goal, lot=("mends", [0, 1, 1]), book=book), [])
        self.same(bar(goal=goal, book=book), bar(book, goal))
        self.assertIs(is_bar(value=[], goal=goal, book=book), False)

    def test_they_are_not_changed(self):
        book, goal, lot = mend_book(), ("mends", [0, 1, 1]), ("mends", [1, 1, 0])
        lots = least_lots(book, goal)[::-1] * 2
        handed = [goal, lot, lots]
        before = copy.deepcopy(handed)
        least_lots(book, goal), comes_to(book, lot, goal), bar(book, goal), is_bar(book, goal, lots)
        self.assertEqual(handed, before)
        self.assertTrue(book == mend_book())

    def test_what_is_returned_belongs_to_the_caller(self):
        book, goal, lot = mend_book(), ("mends", [0, 1, 1]), ("mends", [1, 1, 0])
        calls = [lambda: least_lots(book, goal), lambda: bar(book, goal), lambda: comes_to(book, lot, goal),
                 lambda: least_lots(still_book(), (None, [1, 0])), lambda: comes_to(book, ("mends", goal[1]), goal)]
        for call in calls:
            first, second = call(), call()
            self.same(first, second)
            self.no_list_twice([first, second, goal, lot])
            for item in first:
                if isinstance(item[1], list):
                    item[1].append(7)
            first.append(None)
            self.same(call(), second)


if __name__ == "__main__":
    unittest.main()
