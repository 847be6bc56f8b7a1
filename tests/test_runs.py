"""[15] and [16]: runs; [1] to [3] as far as they speak of runs."""
import time
import unittest

from hushedasks.books import Book
from hushedasks.errors import InvalidBook, InvalidLot, InvalidRun
from hushedasks.runs import is_run, led, next_events
from samples import Case, any_values, mend_book, run_example, wrong_lots

EXAMPLE = """
from hushedasks.books import Book
from hushedasks.runs import is_run, led, next_events
deeds = [("lacks", "ask", "waits"), ("mends", "mend", "idle")]
hearings = [("lacks", "ask", "waits"), ("idle", "ask", "mends"), ("lacks", "mend", "has"), ("waits", "mend", "has")]
book = Book(["idle", "mends"], ["lacks", "waits", "has"], deeds, hearings, ["mend"])
[book.sounds(), led(book, ("idle", [3, 0, 0]), [("deed", 0, None)]), next_events(book, ("mends", [0, 1, 0]), [])]
# [['ask', 'mend'], ('mends', [0, 3, 0]), [('deed', 1, (0, 0, 0, 0)), ('deed', 1, (0, 0, 1, 0)), ('fall', 'waits')]]
"""


class TestExample(Case):
    def test_of_the_document(self):
        given, asked = run_example(EXAMPLE)
        self.assertEqual(given, asked)


class TestWhoHears(Case):
    def test_all_who_could_hear_do_unless_the_sound_can_be_lost(self):
        book = mend_book([])
        self.same(led(book, ("idle", [3, 0, 0]), [("deed", 0, None)]), ("mends", [0, 3, 0]))
        self.same(led(book, ("mends", [2, 3, 1]), [("deed", 1, None)]), ("idle", [0, 0, 6]))

    def test_where_it_can_be_lost_just_those_hear_it_that_are_told(self):
        book = mend_book(["ask", "mend"])
        lot = ("idle", [3, 1, 0])
        for heard, behind in (
            ((0, 0, 0, 0), ("idle", [2, 2, 0])),
            ((1, 0, 0, 0), ("mends", [2, 2, 0])),
            ((0, 2, 0, 0), ("idle", [0, 4, 0])),
            ((1, 1, 0, 0), ("mends", [1, 3, 0])),
        ):
            self.same(led(book, lot, [("deed", 0, heard)]), behind)
        self.assertEqual(next_events(book, lot, []), [
            ("deed", 0, (house, many, 0, 0)) for house in (0, 1) for many in (0, 1, 2)
        ] + [("fall", "lacks"), ("fall", "waits")])

    def test_who_says_it_does_not_hear_it(self):
        # The one who says it would go on to "back" if it heard itself, be it where it was or where it is then.
        deeds = [("here", "cry", "there")]
        hearings = [("here", "cry", "back"), ("there", "cry", "back")]
        for lost, heard in (([], None), (["cry"], (0, 0, 0, 0))):
            book = Book(["home"], ["here", "there", "back"], deeds, hearings, lost)
            lot = ("home", [1, 0, 0])
            self.same(next_events(book, lot, []), [("deed", 0, heard), ("fall", "here")])
            self.same(led(book, lot, [("deed", 0, heard)]), ("home", [0, 1, 0]))
        book = Book(["home"], ["here", "there", "back"], deeds, hearings, ["cry"])
        self.assertTrue(is_run(book, ("home", [3, 4, 5]), [("deed", 0, (0, 2, 4, 0))]))
        self.assertFalse(is_run(book, ("home", [3, 4, 5]), [("deed", 0, (0, 3, 4, 0))]))
        self.assertFalse(is_run(book, ("home", [3, 4, 5]), [("deed", 0, (0, 2, 5, 0))]))

    def test_the_house_does_not_hear_itself(self):
        deeds = [("home", "cry", "away")]
        hearings = [("home", "cry", "lost"), ("away", "cry", "lost"), ("here", "cry", "there")]
        houses, stands = ["home", "away", "lost"], ["here", "there"]
        book = Book(houses, stands, deeds, hearings, [])
        self.same(led(book, ("home", [2, 1]), [("deed", 0, None)]), ("away", [0, 3]))
        book = Book(houses, stands, deeds, hearings, ["cry"])
        self.same(next_events(book, ("home", [1, 0]), []), [
            ("deed", 0, (0, 0, 0)), ("deed", 0, (0, 1, 0)), ("fall", "here"),
        ])
        self.assertFalse(is_run(book, ("home", [1, 0]), [("deed", 0, (1, 1, 0))]))
        self.same(led(book, ("home", [1, 0]), [("deed", 0, (0, 1, 0))]), ("away", [0, 1]))

    def test_all_hear_at_once(self):
        # Each goes one place on, none two.
        book = Book(["home", "away"], ["a", "b", "c"], [("a", "cry", "a")],
                    [("a", "cry", "b"), ("b", "cry", "c"), ("c", "cry", "a"), ("home", "cry", "away"),
                     ("away", "cry", "home")], [])
        self.same(led(book, ("home", [2, 3, 5]), [("deed", 0, None)]), ("away", [6, 1, 3]))
        self.same(led(book, ("away", [1, 0, 0]), [("deed", 0, None)]), ("home", [1, 0, 0]))

    def test_a_hearing_that_stays_at_its_place_is_told_too(self):
        book = Book(["home"], ["a", "b"], [("a", "cry", "a")], [("a", "cry", "a"), ("home", "cry", "home")], ["cry"])
        events = [("deed", 0, (house, many, 0)) for house in (0, 1) for many in (0, 1)]
        self.same(next_events(book, ("home", [2, 1]), []), events + [("fall", "a"), ("fall", "b")])
        for event in events:
            self.same(led(book, ("home", [2, 1]), [event]), ("home", [2, 1]))

    def test_noughts_where_nobody_could_hear(self):
        book = Book(["home"], ["a", "b"], [("a", "cry", "b")], [], ["cry"])
        self.same(next_events(book, ("home", [1, 1]), []), [("deed", 0, (0, 0, 0)), ("fall", "a"), ("fall", "b")])
        self.assertFalse(is_run(book, ("home", [1, 1]), [("deed", 0, None)]))
        self.assertFalse(is_run(book, ("home", [1, 1]), [("deed", 0, (0, 0, 1))]))
        self.same(led(book, ("home", [1, 1]), [("deed", 0, (0, 0, 0))]), ("home", [0, 2]))

    def test_deeds_without_a_sound_are_heard_by_nobody(self):
        book = Book(["home", "away"], ["a", "b"], [("home", None, "away"), ("a", None, "b")],
                    [("a", "cry", "b"), ("home", "cry", "away")], ["cry"])
        lot = ("home", [2, 0])
        self.same(next_events(book, lot, []), [("deed", 0, None), ("deed", 1, None), ("fall", "a")])
        self.same(led(book, lot, [("deed", 0, None)]), ("away", [2, 0]))
        self.same(led(book, lot, [("deed", 1, None)]), ("home", [1, 1]))
        self.assertFalse(is_run(book, lot, [("deed", 1, (0, 0, 0))]))


class TestNextEvents(Case):
    def test_in_order_of_numbers_and_of_names(self):
        book = Book(["home"], ["d", "c", "b", "a"], [("home", None, "home")] * 10, [], [])
        self.same(next_events(book, ("home", [1, 1, 1, 1]), []),
                  [("deed", number, None) for number in range(10)] + [("fall", stand) for stand in "abcd"])

    def test_heards_in_order(self):
        book = Book(["home", "away"], ["b", "a"], [("b", "cry", "b")],
                    [("b", "cry", "a"), ("a", "cry", "b"), ("home", "cry", "away")], ["cry"])
        found = next_events(book, ("home", [3, 2]), [])
        self.assertEqual(found, sorted(found))
        self.assertEqual(len(found), 2 * 3 * 3 + 2)
        self.assertEqual(len(set(found)), len(found))

    def test_equal_deeds_are_events_of_their_own(self):
        book = Book(["home"], ["a"], [("a", None, "a"), ("a", None, "a")], [], [])
        self.same(next_events(book, ("home", [1]), []), [("deed", 0, None), ("deed", 1, None), ("fall", "a")])

    def test_nothing_without_listeners_and_deeds(self):
        book = Book(["home"], ["a"], [("a", None, "a")], [], [])
        self.same(next_events(book, ("home", [0]), []), [])
        self.same(next_events(book, ("home", [1]), [("fall", "a")]), [])

    def test_behind_a_run(self):
        book = mend_book()
        run = [("deed", 0, None), ("deed", 1, (0, 0, 1, 0))]
        self.same(next_events(book, ("idle", [2, 0, 0]), run), [("fall", "has"), ("fall", "waits")])

    def test_only_where_the_house_stands(self):
        book = Book(["home", "away"], ["a"], [("away", None, "home"), ("home", None, "away")], [], [])
        self.same(next_events(book, ("home", [0]), []), [("deed", 1, None)])
        self.same(next_events(book, ("away", [0]), []), [("deed", 0, None)])

    def test_kinds(self):
        for event in next_events(mend_book(["ask", "mend"]), ("idle", [2, 1, 0]), []):
            self.assertIs(type(event), tuple)
            if event[0] == "deed":
                self.assertEqual([type(many) for many in event[2]], [int] * 4)


class TestFalls(Case):
    def test_one_listener_is_gone(self):
        book = mend_book()
        self.same(led(book, ("mends", [1, 2, 3]), [("fall", "waits")]), ("mends", [1, 1, 3]))
        self.same(led(book, ("idle", [1, 0, 1]), [("fall", "has"), ("fall", "lacks")]), ("idle", [0, 0, 0]))

    def test_not_where_nobody_stands_and_not_the_house(self):
        book = mend_book()
        for stand in ("waits", "has", "idle", "mends", "gone", None, ["lacks"], 0, {}):
            self.assertIs(is_run(book, ("idle", [1, 0, 0]), [("fall", stand)]), False)
        self.assertIs(is_run(book, ("idle", [1, 0, 0]), [("fall", "lacks"), ("fall", "lacks")]), False)


class TestIsRun(Case):
    LOT = ("idle", [2, 0, 0])

    def test_runs(self):
        book = mend_book()
        for value in (
            [],
            [("deed", 0, None)],
            [("fall", "lacks")],
            [("deed", 0, None), ("deed", 1, (0, 0, 2, 0)), ("fall", "has")],
            [("fall", "lacks"), ("deed", 0, None), ("deed", 1, (0, 0, 0, 0)), ("fall", "waits")],
        ):
            self.assertIs(is_run(book, self.LOT, value), True)

    def test_events_that_cannot_come_next(self):
        book = mend_book()
        for value in (
            [("deed", 1, (0, 0, 0, 0))],
            [("deed", 0, None), ("deed", 0, None)],
            [("deed", 0, None), ("deed", 1, (0, 0, 3, 0))],
            [("deed", 0, None), ("deed", 1, (0, 1, 0, 0))],
            [("deed", 0, None), ("deed", 1, (1, 0, 0, 0))],
            [("deed", 0, None), ("deed", 1, (0, 0, -1, 0))],
            [("deed", 0, (1, 1, 0, 0))],
            [("deed", 0, None), ("deed", 1, None)],
            [("deed", 2, None)],
            [("deed", -1, None)],
            [("deed", -2, None)],
        ):
            self.assertIs(is_run(book, self.LOT, value), False, value)

    def test_what_is_of_another_kind(self):
        book = mend_book()
        on = [("deed", 0, None)]
        self.assertIs(is_run(book, self.LOT, on + [("deed", 1, (0, 0, 1, 0))]), True)
        for value in (
            tuple(on),
            [["deed", 0, None]],
            [("deed", False, None)],
            [("deed", 0)],
            [("deed",)],
            [("deed", 0, None, None)],
            [("deed", "0", None)],
            [("deed", None, None)],
            [("deed", [0], None)],
            [("deed", 0, False)],
            [("deed", 0, ())],
            [("deed", 0, [])],
            [("lacks", 0, None)],
            [(["deed"], 0, None)],
            [(None, 0, None)],
            [("fall", "lacks", None)],
            [("fall",)],
            [["fall", "lacks"]],
            [(True, "lacks")],
            on + [("deed", True, (0, 0, 1, 0))],
            on + [("deed", 1, [0, 0, 1, 0])],
            on + [("deed", 1, (0, 0, 1))],
            on + [("deed", 1, (0, 0, 1, 0, 0))],
            on + [("deed", 1, (0, 0, True, 0))],
            on + [("deed", 1, (False, 0, 1, 0))],
            on + [("deed", 1, (0, 0, "1", 0))],
            on + [("deed", 1, (0, 0, None, 0))],
            on + [("deed", 1, (0, 0, (1,), 0))],
            on + [("deed", 1, ())],
            on + [on],
        ):
            self.assertIs(is_run(book, self.LOT, value), False, value)

    def test_any_value(self):
        book = mend_book()
        for value in any_values() + [book, led]:
            self.assertIs(is_run(book, self.LOT, value), value == [])
            for within in ([value], [("deed", 0, None), value], [("deed", value, None)], [("fall", value)],
                           [(value, "lacks")], [("deed", 0, None), ("deed", 1, value)],
                           [("deed", 0, None), ("deed", 1, (0, 0, value, 0))]):
                can_be = within in ([("deed", 0, None)], [("deed", 0, None), ("deed", 1, (0, 0, 1, 0))],
                                    [("deed", 0, None), ("deed", 1, (0, 0, 0, 0))])
                self.assertIs(is_run(book, self.LOT, within), can_be and not isinstance(value, bool))


class TestErrors(Case):
    LOT = ("idle", [1, 0, 0])

    def test_books(self):
        for call in (is_run, next_events, led):
            for value in any_values() + [["idle"], Book]:
                self.raises(InvalidBook, value, call, value, self.LOT, [])
                self.raises(InvalidBook, value, call, value, None, None)

    def test_lots(self):
        book = mend_book()
        for call in (is_run, next_events, led):
            for value in wrong_lots() + [(None, [1, 0, 0])]:
                self.raises(InvalidLot, value, call, book, value, [])
                self.raises(InvalidLot, value, call, book, value, None)

    def test_runs(self):
        book = mend_book()
        for call in (next_events, led):
            for value in any_values() + [book, (), [("deed", 1, None)], [("deed", False, None)], (("deed", 0, None),)]:
                if value != []:
                    self.raises(InvalidRun, value, call, book, self.LOT, value)

    def test_nothing_is_changed_by_an_error(self):
        counts, run = [1, 0, 0], [("deed", 0, None), ("deed", 0, None)]
        lot = ("idle", counts)
        self.raises(InvalidRun, run, led, mend_book(), lot, run)
        self.assertEqual((lot, run), (("idle", [1, 0, 0]), [("deed", 0, None), ("deed", 0, None)]))


class TestArguments(Case):
    def test_by_name(self):
        book, lot, run = mend_book(), ("idle", [1, 0, 0]), [("fall", "lacks")]
        self.assertIs(is_run(value=run, lot=lot, book=book), True)
        self.same(next_events(run=run, lot=lot, book=book), [])
        self.same(led(run=run, lot=lot, book=book), ("idle", [0, 0, 0]))

    def test_they_are_not_changed(self):
        book, lot, run = mend_book(), ("idle", [3, 0, 0]), [("deed", 0, None), ("deed", 1, (0, 0, 2, 0))]
        for call in (is_run, next_events, led):
            call(book, lot, run)
            self.assertEqual((lot, run), (("idle", [3, 0, 0]), [("deed", 0, None), ("deed", 1, (0, 0, 2, 0))]))
            self.assertTrue(book == mend_book())

    def test_what_is_returned_belongs_to_the_caller(self):
        book, lot = mend_book(), ("idle", [3, 0, 0])
        for run in ([], [("fall", "lacks")], [("deed", 0, None)]):
            first, second = led(book, lot, run), led(book, lot, run)
            self.assertEqual(first, second)
            self.assertIsNot(first[1], second[1])
            self.assertIsNot(first[1], lot[1])
            self.assertIsNot(next_events(book, lot, run), next_events(book, lot, run))
            self.assertEqual(next_events(book, lot, run), next_events(book, lot, run))

    def test_a_lot_that_is_returned_may_be_passed_again(self):
        book = mend_book()
        lot = led(book, ("idle", [3, 0, 0]), [("deed", 0, None)])
        self.same(led(book, lot, [("deed", 1, (0, 0, 1, 0))]), ("idle", [0, 2, 1]))


class TestLimits(Case):
    def test_a_long_run_and_a_lot_with_many_listeners(self):
        stands = ["a", "b", "c", "d"]
        hearings = [(stand, sound, stands[(at + step) % 4]) for at, stand in enumerate(stands)
                    for step, sound in enumerate(["x", "y", "z"])]
        deeds = [(stand, sound, stand) for stand in stands for sound in ("x", "y")] + [("home", "z", "home")] * 2
        book = Book(["home"], stands, deeds, hearings, ["x", "y", "z"])
        started = time.monotonic()
        run = []
        lot = ("home", [2, 2, 1, 1])
        for number in range(200):
            events = [event for event in next_events(book, lot, run) if event[0] == "deed"]
            run.append(events[number * 37 % len(events)])
        self.assertIs(is_run(book, lot, run), True)
        self.assertEqual(sum(led(book, lot, run)[1]), 6)
        # Each of the 200 calls goes over the run so far.
        self.assertLess(time.monotonic() - started, 20)
        self.assertEqual(len(next_events(book, ("home", [3, 3, 3, 3]), [])), 8 * 3 * 4 ** 3 + 2 * 4 ** 4 + 4)

    def test_great_counts(self):
        many = 10 ** 30
        book = mend_book()
        self.same(led(book, ("idle", [many, 0, 0]), [("deed", 0, None), ("deed", 1, (0, 0, many - 1, 0))]),
                  ("idle", [0, 1, many - 1]))


if __name__ == "__main__":
    unittest.main()
