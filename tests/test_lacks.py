"""[35] and [36]: lacks that last; [1] to [3] as far as they speak of these."""
import copy
import itertools
import unittest

from hushedasks.books import Book
from hushedasks.errors import InvalidBook, InvalidItem, InvalidList, UnknownName
from hushedasks.lacks import alone, lack_run, lasting
from hushedasks.numbers import beginning, least_number
from hushedasks.runs import is_run, led
from samples import Case, any_values, mend_book, run_example

EXAMPLE = """
from hushedasks.books import Book
from hushedasks.lacks import alone, lack_run, lasting
deeds = [("lacks", "ask", "asked"), ("mends", "mend", "idle")]
hearings = [("lacks", "ask", "still"), ("idle", "ask", "mends"), ("asked", "mend", "has"), ("still", "mend", "has")]
book = Book(["idle", "mends"], ["lacks", "asked", "still", "has"], deeds, hearings, ["mend"])
[alone(book, "mends", "still"), alone(book, "idle", "still"), lasting(book, ["has"]), len(lack_run(book, "idle", "still"))]
# [['has', 'still'], ['still'], [('idle', 'asked', 1), ('idle', 'still', 2)], 3]
"""


def still_book(lost=("mend",)):
    """The book of the example: who hears an ask keeps still from then on."""
    deeds = [("lacks", "ask", "asked"), ("mends", "mend", "idle")]
    hearings = [("lacks", "ask", "still"), ("idle", "ask", "mends"), ("asked", "mend", "has"), ("still", "mend", "has")]
    return Book(["idle", "mends"], ["lacks", "asked", "still", "has"], deeds, hearings, list(lost))


class TestExample(Case):
    def test_of_the_document(self):
        given, asked = run_example(EXAMPLE)
        self.assertEqual(given, asked)


class TestAlone(Case):
    def test_the_stand_itself_where_nothing_is_done(self):
        book = Book(["g", "h"], ["b", "a"], [], [], [])
        for house, stand in itertools.product(("g", "h"), ("a", "b")):
            self.same(alone(book, house, stand), [stand])

    def test_in_order_each_once(self):
        book = Book(["h"], ["d", "a", "c", "b"], [("d", None, "c"), ("c", None, "b"), ("b", None, "d"), ("d", "x", "b")],
                    [], [])
        self.same(alone(book, "h", "d"), ["b", "c", "d"])
        self.same(alone(book, "h", "a"), ["a"])

    def test_what_the_house_does_and_what_it_hears(self):
        self.same(alone(still_book(), "idle", "lacks"), ["asked", "has", "lacks"])
        self.same(alone(still_book(), "mends", "lacks"), ["asked", "has", "lacks"])
        self.same(alone(still_book(), "mends", "asked"), ["asked", "has"])
        self.same(alone(still_book(), "idle", "asked"), ["asked"])
        self.same(alone(still_book(), "idle", "has"), ["has"])

    def test_where_nothing_is_lost_all_are_mended(self):
        self.same(alone(still_book([]), "mends", "asked"), ["asked", "has"])
        # The house does not hear the ask while it mends: the one who has asked is mended all the same.
        self.same(alone(still_book([]), "mends", "lacks"), ["asked", "has", "lacks"])

    def test_nobody_else_is_there(self):
        # Only another listener could wake the one at a.
        book = Book(["h"], ["a", "b", "c"], [("b", "wake", "b")], [("a", "wake", "c")], ["wake"])
        self.same(alone(book, "h", "a"), ["a"])
        self.same(alone(book, "h", "b"), ["b"])
        house = Book(["h"], ["a", "b", "c"], [("h", "wake", "h")], [("a", "wake", "c")], [])
        self.same(alone(house, "h", "a"), ["a", "c"])

    def test_the_house_goes_on_first(self):
        book = Book(["f", "g", "h"], ["a", "b"], [("f", None, "g"), ("g", "x", "h")], [("a", "x", "b")], [])
        self.same(alone(book, "f", "a"), ["a", "b"])
        self.same(alone(book, "g", "a"), ["a", "b"])
        self.same(alone(book, "h", "a"), ["a"])


class TestLasting(Case):
    def test_no_well_one(self):
        book = still_book()
        found = lasting(book, [])
        self.assertEqual(found, sorted(found))
        self.same(found, [("idle", "asked", 1), ("idle", "has", 1), ("idle", "lacks", 1), ("idle", "still", 2),
                          ("mends", "asked", 1), ("mends", "still", 2)])
        for house, stand, number in found:
            self.same(least_number(book, (house, [int(other == stand) for other in book.stands()])), number)

    def test_one_and_several_and_all(self):
        book = still_book()
        self.same(lasting(book, ["has"]), [("idle", "asked", 1), ("idle", "still", 2)])
        self.same(lasting(book, ["has", "asked"]), [("idle", "still", 2)])
        self.same(lasting(book, ["asked", "has"]), [("idle", "still", 2)])
        self.same(lasting(book, ["still", "has"]), [("idle", "asked", 1)])
        self.same(lasting(book, ["lacks"]), [("idle", "asked", 1), ("idle", "has", 1), ("idle", "still", 2),
                                            ("mends", "asked", 1), ("mends", "still", 2)])
        self.same(lasting(book, ["has", "still", "asked", "lacks"]), [])
        self.same(lasting(Book(["h"], ["a"], [], [], []), ["a"]), [])
        self.same(lasting(Book(["h"], ["a"], [], [], []), []), [("h", "a", 1)])

    def test_where_nothing_is_lost(self):
        self.same(lasting(still_book([]), ["has"]), [])
        self.same(lasting(still_book(["ask"]), ["has"]), [("idle", "asked", 1), ("idle", "still", 2)])

    def test_only_what_some_run_comes_to(self):
        book = Book(["g", "h"], ["a", "b"], [], [], [])
        self.same(lasting(book, []), [("g", "a", 1)])
        self.same(lasting(book, ["b"]), [("g", "a", 1)])
        self.same(lasting(book, ["a"]), [])

    def test_one_that_needs_many(self):
        # Each listener takes the house on by one step and is gone for it; the next one still lacks.
        deeds = [("a", "one", "b"), ("a", "two", "b"), ("a", "three", "c")]
        hearings = [("f", "one", "g"), ("g", "two", "h"), ("h", "three", "h")]
        book = Book(["f", "g", "h"], ["a", "b", "c"], deeds, hearings, [])
        self.same(lasting(book, ["a", "b"]), [("f", "c", 1), ("g", "c", 2), ("h", "c", 3)])


class TestLackRun(Case):
    def check(self, book, house, stand, events):
        """Check that a run of so many events leads to just this house and this one listener."""
        one = [int(other == stand) for other in book.stands()]
        number = least_number(book, (house, one))
        run = lack_run(book, house, stand)
        begin = beginning(book, number)
        self.assertIs(is_run(book, begin, run), True)
        self.same(led(book, begin, run), (house, one))
        self.assertEqual(len(run), events)

    def test_one_listener_and_no_event(self):
        self.same(lack_run(still_book(), "idle", "lacks"), [])
        self.same(lack_run(Book(["h"], ["a"], [], [], []), "h", "a"), [])

    def test_one_listener(self):
        book = still_book()
        self.same(lack_run(book, "mends", "asked"), [("deed", 0, None)])
        self.same(lack_run(book, "idle", "asked"), [("deed", 0, None), ("deed", 1, (0, 0, 0, 0, 0))])
        self.same(lack_run(book, "idle", "has"), [("deed", 0, None), ("deed", 1, (0, 0, 1, 0, 0))])

    def test_all_others_fall(self):
        self.check(still_book(), "mends", "still", 2)
        self.check(still_book(), "idle", "still", 3)
        deeds = [("a", "one", "b"), ("a", "two", "b"), ("a", "three", "c")]
        hearings = [("f", "one", "g"), ("g", "two", "h"), ("h", "three", "h")]
        book = Book(["f", "g", "h"], ["a", "b", "c"], deeds, hearings, [])
        self.check(book, "f", "b", 1)
        self.check(book, "g", "b", 1)
        self.check(book, "h", "b", 3)
        self.check(book, "h", "a", 4)
        self.check(book, "h", "c", 5)
        self.assertEqual(sorted([event for event in lack_run(book, "h", "a") if event[0] == "fall"]), [("fall", "b")] * 2)

    def test_others_at_the_same_stand_fall_too(self):
        book = Book(["g", "h"], ["a", "b"], [("a", "x", "a")], [("g", "x", "h"), ("a", "x", "b")], [])
        self.check(book, "h", "a", 1)
        both = Book(["f", "g", "h"], ["a", "b"], [("a", "x", "b"), ("a", "y", "b")], [("f", "x", "g"), ("g", "y", "h")], [])
        self.check(both, "h", "b", 3)
        self.assertIn(("fall", "b"), lack_run(both, "h", "b"))

    def test_none_where_there_is_none(self):
        book = Book(["g", "h"], ["a", "b"], [], [], [])
        for house, stand in (("g", "b"), ("h", "a"), ("h", "b")):
            self.assertIsNone(lack_run(book, house, stand))
        # Nobody lacks any more once one has something.
        self.assertIsNone(lack_run(mend_book(), "mends", "has"))

    def test_of_each_lack_that_lasts(self):
        for lost in ([], ["ask"], ["mend"], ["ask", "mend"]):
            for book in (still_book(lost), mend_book(lost)):
                for house, stand, number in lasting(book, []):
                    run = lack_run(book, house, stand)
                    one = [int(other == stand) for other in book.stands()]
                    self.same(led(book, beginning(book, number), run), (house, one))
                    self.assertEqual(len([event for event in run if event[0] == "fall"]), number - 1)


class TestErrors(Case):
    def test_books(self):
        for value in any_values() + [["idle"], Book]:
            for call in (alone, lack_run):
                self.raises(InvalidBook, value, call, value, "idle", "lacks")
                self.raises(InvalidBook, value, call, value, None, None)
            self.raises(InvalidBook, value, lasting, value, [])
            self.raises(InvalidBook, value, lasting, value, None)

    def test_houses_then_stands(self):
        book = mend_book()
        for call in (alone, lack_run):
            for value in any_values() + [book, ["idle"], ("idle",), "IDLE", "idl"]:
                for stand in ("lacks", "gone", None, "idle"):
                    self.raises(UnknownName, value, call, book, value, stand)
                for house in ("idle", "mends"):
                    self.raises(UnknownName, value, call, book, house, value)
            self.raises(UnknownName, "lacks", call, book, "lacks", "idle")
            self.raises(UnknownName, "idle", call, book, "mends", "idle")

    def test_lists(self):
        for value in any_values() + [mend_book(), ("has",), "has", {"has": 1}]:
            if not isinstance(value, list):
                self.raises(InvalidList, value, lasting, mend_book(), value)

    def test_items(self):
        for value in any_values() + [mend_book(), "idle", "gone", ["has"], ("has",), True]:
            for well in ([value], ["has", value], ["lacks", "waits", value, "has", "has"], [value, None, "gone"]):
                self.raises(InvalidItem, value, lasting, mend_book(), well)
        again = "".join(["h", "as"])
        self.raises(InvalidItem, again, lasting, mend_book(), ["has", "waits", again, "gone"])


class TestArguments(Case):
    def test_by_name(self):
        book = still_book()
        self.same(alone(stand="still", house="mends", book=book), ["has", "still"])
        self.same(lasting(well=["has", "asked"], book=book), [("idle", "still", 2)])
        self.same(lack_run(stand="asked", house="mends", book=book), [("deed", 0, None)])

    def test_they_are_not_changed_and_what_is_returned_belongs_to_the_caller(self):
        book, well = still_book(), ["has", "lacks"]
        before = copy.deepcopy(well)
        for call in (lambda: alone(book, "mends", "still"), lambda: lasting(book, well),
                     lambda: lack_run(book, "idle", "still")):
            first, second = call(), call()
            self.same(first, second)
            self.no_list_twice([first, second, well])
            first.append(None)
            self.same(call(), second)
        self.assertEqual(well, before)
        self.assertTrue(book == still_book())


if __name__ == "__main__":
    unittest.main()
