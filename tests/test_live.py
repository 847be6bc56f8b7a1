"""[65] and [66]: live books; [1] and [2] as far as they speak of these."""
import random
import unittest
import unittest.mock

from hushedasks.books import Book
from hushedasks.errors import InvalidBook, InvalidGoal, InvalidItem, InvalidList, NothingToUndo
from hushedasks.lacks import lasting
from hushedasks.library import Library
from hushedasks.live import Live
from hushedasks.numbers import least_number
from hushedasks.tables import table
from samples import DEEDS, HEARINGS, Case, any_values, mend_book, wrong_lots
from test_tables import book_by_chance, changed, entries_by_hand, goals_of, without_by_hand, wrong_entries

SEED = 20261121

# What is neither a deed nor a hearing of `mend_book`.
WRONG_DEEDS = [
    ["lacks", "ask", "has"], ("lacks", "ask"), ("lacks", "ask", "has", "has"), ("lacks", "ask", "idle"),
    ("idle", "ask", "lacks"), ("lacks", "ask", "gone"), ("gone", "ask", "lacks"), ("lacks", "Ask", "has"),
    ("lacks", "", "has"), ("lacks", "abcdefghi", "has"), ("lacks", False, "has"), ("lacks", 0, "has"),
    ("lacks", ["ask"], "has"), (None, "ask", "has"), ("lacks", "ask", None), (["lacks"], "ask", "has"),
    ({}, {}, {}), ("deed", "ask", "has"), "lacks", ("lacks", "_", "has"), (True, None, False),
]


def full_book():
    """A book with 10 deeds and 12 hearings."""
    hearings = [("lacks", sound, "waits") for sound in "abcdefghijkl"]
    return changed(mend_book(), deeds=[("lacks", None, "has")] * 10, hearings=hearings)


class LiveCase(Case):
    def stands_as(self, live, book, log):
        """Check what a live book tells of its book and its steps."""
        self.assertTrue(live.shown() == book)
        self.assertIs(type(live.shown()), Book)
        self.same(live.log(), log)

    def refuses(self, kind, field, live, method, *arguments):
        """Check that a call raises this error with this very field, and changes nothing."""
        book, log = live.shown(), live.log()
        self.raises(kind, field, getattr(live, method), *arguments)
        self.stands_as(live, book, log)

    def refuses_to_go_back(self, live):
        book = live.shown()
        with self.assertRaises(NothingToUndo):
            live.back()
        self.stands_as(live, book, [])


class TestSteps(LiveCase):
    def test_the_beginning(self):
        book = mend_book()
        live = Live(book)
        self.stands_as(live, book, [])
        self.assertNotIsInstance(live, Book)

    def test_add(self):
        live = Live(mend_book())
        for deed in (("idle", None, "idle"), ("has", "cry", "has"), DEEDS[0], DEEDS[0], ("has", "mend", "lacks")):
            before = live.shown()
            self.assertIsNone(live.add(deed))
            self.assertTrue(live.shown() == changed(before, deeds=before.deeds() + [deed]))
        self.assertEqual(len(live.log()), 5)
        self.same(live.log()[1:3], [("add", ("has", "cry", "has")), ("add", DEEDS[0])])

    def test_hear(self):
        live = Live(mend_book())
        for hearing in (("has", "ask", "has"), ("idle", "mend", "mends"), ("lacks", "cry", "has")):
            before = live.shown()
            self.assertIsNone(live.hear(hearing))
            self.assertTrue(live.shown() == changed(before, hearings=before.hearings() + [hearing]))
        self.same(live.log()[2], ("hear", ("lacks", "cry", "has")))
        self.assertEqual(len(live.log()), 3)

    def test_leave_entries_of_each_kind_the_first_and_the_last(self):
        book = mend_book(["mend", "ask", "cry"])
        for entry in (("deed", 0), ("deed", 1), ("hearing", 0), ("hearing", 3), ("hearing", 2), ("lost", "mend"),
                      ("lost", "ask"), ("lost", "cry")):
            live = Live(book)
            self.assertIsNone(live.leave(entry))
            self.stands_as(live, without_by_hand(book, entry), [("leave", entry)])

    def test_one_of_equal_deeds(self):
        live = Live(mend_book())
        live.add(DEEDS[0])
        live.leave(("deed", 0))
        self.same(live.shown().deeds(), [DEEDS[1], DEEDS[0]])
        live.leave(("deed", 1))
        self.same(live.shown().deeds(), [DEEDS[1]])
        wrong = ("deed", 1)
        self.refuses(InvalidItem, wrong, live, "leave", wrong)

    def test_until_nothing_is_left(self):
        live = Live(mend_book())
        for entry in [("deed", 0)] * 2 + [("hearing", 0)] * 4 + [("lost", "mend")]:
            live.leave(entry)
        self.assertTrue(live.shown() == Book(["idle", "mends"], ["lacks", "waits", "has"], [], [], []))
        for entry in (("deed", 0), ("hearing", 0), ("lost", "mend")):
            self.refuses(InvalidItem, entry, live, "leave", entry)

    def test_ten_deeds_and_twelve_hearings(self):
        live = Live(mend_book())
        for _ in range(8):
            live.add(("has", None, "has"))
        for sound in "abcdefgh":
            live.hear(("has", sound, "has"))
        self.assertEqual((len(live.shown().deeds()), len(live.shown().hearings())), (10, 12))
        for call, step, rows in (
            (live.add, ("has", None, "has"), DEEDS + [("has", None, "has")] * 8),
            (live.hear, ("has", "z", "has"), HEARINGS + [("has", sound, "has") for sound in "abcdefgh"]),
        ):
            told = []
            for _ in range(2):
                book, log = live.shown(), live.log()
                with self.assertRaises(InvalidList) as caught:
                    call(step)
                self.same(caught.exception.value, rows)
                told.append(caught.exception.value)
                # The list is a new one: nothing that is done to it gets into the live book.
                caught.exception.value.append(None)
                self.stands_as(live, book, log)
            self.assertIsNot(told[0], told[1])
        live.leave(("deed", 9))
        live.add(("has", "z", "has"))
        live.leave(("hearing", 11))
        live.hear(("has", "z", "has"))
        self.assertEqual((len(live.shown().deeds()), len(live.shown().hearings())), (10, 12))


class TestWrongSteps(LiveCase):
    def test_what_is_no_deed(self):
        live = Live(mend_book())
        for value in any_values() + WRONG_DEEDS + [mend_book(), (mend_book(), "a", mend_book()), live]:
            self.refuses(InvalidItem, value, live, "add", value)

    def test_what_is_no_hearing(self):
        live = Live(mend_book())
        for value in any_values() + WRONG_DEEDS + [mend_book(), ("lacks", None, "has"), ("idle", None, "mends"), live]:
            self.refuses(InvalidItem, value, live, "hear", value)

    def test_a_hearing_with_a_place_and_a_sound_that_are_there(self):
        live = Live(mend_book())
        for value in (("lacks", "ask", "waits"), ("lacks", "ask", "has"), ("idle", "ask", "idle"), ("waits", "mend", "lacks")):
            self.refuses(InvalidItem, value, live, "hear", value)
        live.hear(("has", "cry", "has"))
        value = ("has", "cry", "lacks")
        self.refuses(InvalidItem, value, live, "hear", value)
        live.leave(("hearing", 4))
        live.hear(value)
        self.same(live.shown().hearings()[4:], [value])

    def test_what_is_no_entry(self):
        live = Live(mend_book())
        for value in wrong_entries():
            self.refuses(InvalidItem, value, live, "leave", value)

    def test_what_is_wrong_twice(self):
        live = Live(full_book())
        for value in (None, ("lacks", "ask"), ("lacks", "ask", "idle")):
            self.refuses(InvalidItem, value, live, "add", value)
            self.refuses(InvalidItem, value, live, "hear", value)
        value = ("lacks", "a", "has")
        self.refuses(InvalidItem, value, live, "hear", value)

    def test_for_the_houses_and_stands_of_this_book_alone(self):
        live = Live(Book(["a"], ["b"], [], [], []))
        for value in (("lacks", "ask", "waits"), ("a", "x", "b"), ("b", "x", "a")):
            self.refuses(InvalidItem, value, live, "add", value)
            self.refuses(InvalidItem, value, live, "hear", value)
        live.add(("a", None, "a"))
        live.hear(("b", "x", "b"))

    def test_books(self):
        for value in any_values() + [["idle"], Book, Live(mend_book())]:
            self.raises(InvalidBook, value, Live, value)

    def test_goals_and_lists(self):
        live = Live(mend_book())
        for value in wrong_lots():
            self.refuses(InvalidGoal, value, live, "least_number", value)
        for value in any_values() + [mend_book(), ("has",), "has"]:
            if not isinstance(value, list):
                self.refuses(InvalidList, value, live, "lasting", value)
            self.refuses(InvalidItem, value, live, "lasting", ["has", value])
        again = "".join(["h", "as"])
        self.refuses(InvalidItem, again, live, "lasting", ["has", "waits", again])


class TestWhatIsTold(LiveCase):
    def test_what_is_shown_stays(self):
        live = Live(mend_book())
        shown = [live.shown()]
        for call, step in ((live.add, ("has", None, "has")), (live.hear, ("has", "x", "has")), (live.leave, ("lost", "mend"))):
            call(step)
            shown.append(live.shown())
        kept = [(book.deeds(), book.hearings(), book.lost()) for book in shown]
        for _ in range(3):
            live.back()
        live.leave(("deed", 0))
        self.assertEqual([(book.deeds(), book.hearings(), book.lost()) for book in shown], kept)
        self.assertTrue(shown[0] == mend_book())
        self.assertEqual(kept[3], (DEEDS + [("has", None, "has")], HEARINGS + [("has", "x", "has")], []))

    def test_what_is_told_follows_the_steps(self):
        live = Live(mend_book())
        goal = ("mends", [0, 1, 1])
        self.assertIsNone(live.least_number(goal))
        self.same(live.lasting(["has"]), [("idle", "waits", 1)])
        live.add(("waits", None, "lacks"))
        self.same(live.least_number(goal), 2)
        self.same(live.lasting(["has"]), [])
        live.leave(("lost", "mend"))
        self.same(live.least_number(goal), least_number(live.shown(), goal))
        self.same(live.lasting([]), lasting(live.shown(), []))
        live.back()
        live.back()
        self.assertIsNone(live.least_number(goal))
        self.same(live.lasting(["has"]), [("idle", "waits", 1)])

    def test_each_list_is_a_new_one(self):
        live = Live(mend_book())
        live.add(DEEDS[0])
        for call in (live.log, lambda: live.lasting(["has"])):
            first, second = call(), call()
            self.same(first, second)
            self.made_of_plain_kinds(first)
            self.no_list_twice([first, second])
            first.clear()
            self.same(call(), second)

    def test_arguments_by_name_and_not_changed(self):
        live = Live(book=mend_book())
        live.add(deed=("has", None, "has"))
        live.hear(hearing=("has", "x", "has"))
        live.leave(entry=("deed", 0))
        goal, well = (None, [0, 1, 0]), ["has", "waits"]
        self.same(live.least_number(goal=goal), least_number(live.shown(), goal))
        self.same(live.lasting(well=well), lasting(live.shown(), well))
        self.assertEqual((goal, well), ((None, [0, 1, 0]), ["has", "waits"]))
        self.same(live.log(), [("add", ("has", None, "has")), ("hear", ("has", "x", "has")), ("leave", ("deed", 0))])

    def test_lists_of_the_book_that_are_changed_later(self):
        deeds = list(DEEDS)
        book = Book(["idle", "mends"], ["lacks", "waits", "has"], deeds, HEARINGS, ["mend"])
        live = Live(book)
        deeds.clear()
        book.deeds().clear()
        live.shown().deeds().clear()
        self.same(live.shown().deeds(), DEEDS)


class TestBack(LiveCase):
    def test_nothing_to_undo(self):
        live = Live(mend_book())
        self.refuses_to_go_back(live)
        live.add(DEEDS[0])
        self.assertIsNone(live.back())
        self.refuses_to_go_back(live)
        with self.assertRaises(InvalidItem):
            live.add(None)
        self.refuses_to_go_back(live)

    def test_steps_of_each_kind(self):
        live = Live(mend_book())
        steps = [("add", ("has", None, "has")), ("leave", ("deed", 0)), ("hear", ("has", "x", "has")),
                 ("leave", ("hearing", 0)), ("leave", ("lost", "mend")), ("add", ("has", None, "has"))]
        books = [live.shown()]
        for kind, step in steps:
            getattr(live, kind)(step)
            books.append(live.shown())
        for many in range(6, 0, -1):
            self.stands_as(live, books[many], steps[:many])
            self.assertIsNone(live.back())
        self.stands_as(live, mend_book(), [])
        self.refuses_to_go_back(live)

    def test_undone_and_done_again(self):
        live = Live(mend_book())
        live.add(("has", None, "has"))
        live.back()
        live.hear(("has", "x", "has"))
        live.add(("has", None, "has"))
        live.back()
        live.add(("lacks", "x", "has"))
        asked = changed(mend_book(), deeds=DEEDS + [("lacks", "x", "has")], hearings=HEARINGS + [("has", "x", "has")])
        self.stands_as(live, asked, [("hear", ("has", "x", "has")), ("add", ("lacks", "x", "has"))])

    def test_refused_steps_are_not_undone(self):
        live = Live(full_book())
        live.leave(("lost", "mend"))
        for call, value in ((live.add, None), (live.add, ("lacks", None, "has")), (live.leave, ("deed", 10)),
                            (live.hear, ("lacks", "a", "has")), (live.hear, ("lacks", "z", "has"))):
            with self.assertRaises((InvalidItem, InvalidList)):
                call(value)
        live.back()
        self.stands_as(live, full_book(), [])


class TestCopies(LiveCase):
    def test_the_same_book_and_the_same_steps(self):
        live = Live(mend_book())
        live.add(("has", None, "has"))
        live.leave(("deed", 0))
        other = live.copy()
        self.assertIs(type(other), Live)
        self.assertIsNot(other, live)
        self.stands_as(other, live.shown(), live.log())
        other.back()
        other.back()
        self.stands_as(other, mend_book(), [])
        self.refuses_to_go_back(other)
        self.assertEqual(len(live.log()), 2)

    def test_led_on_apart(self):
        live = Live(mend_book())
        live.add(("has", None, "has"))
        other = live.copy()
        live.hear(("has", "x", "has"))
        book, log = live.shown(), live.log()
        other.leave(("lost", "mend"))
        other.back()
        other.back()
        other.add(("lacks", None, "lacks"))
        self.stands_as(live, book, log)
        live.back()
        live.back()
        self.refuses_to_go_back(live)
        self.stands_as(other, changed(mend_book(), deeds=DEEDS + [("lacks", None, "lacks")]),
                       [("add", ("lacks", None, "lacks"))])

    def test_of_a_copy_and_of_one_without_steps(self):
        live = Live(mend_book())
        self.refuses_to_go_back(live.copy())
        live.leave(("deed", 1))
        self.stands_as(live.copy().copy(), live.shown(), [("leave", ("deed", 1))])


class TestEquality(LiveCase):
    def test_equal_books_with_different_steps(self):
        live, other = Live(mend_book()), Live(mend_book())
        self.assertIs(live == other, True)
        self.assertIs(live != other, False)
        live.leave(("lost", "mend"))
        self.assertIs(live == other, False)
        self.assertIs(live != other, True)
        self.assertIs(live == Live(mend_book([])), True)
        live.back()
        live.add(DEEDS[0])
        live.leave(("deed", 2))
        self.assertIs(live == other, True)
        self.assertNotEqual(live.log(), other.log())
        self.assertIs(live == live.copy(), True)

    def test_to_nothing_else(self):
        live = Live(mend_book())
        others = [value for value in any_values() if not isinstance(value, Live)]
        for value in others + [mend_book(), Library(), [mend_book()], unittest.mock.ANY, Live(mend_book([]))]:
            self.assertIs(live == value, False)
            self.assertIs(live != value, True)
        self.assertIs(mend_book() == live, False)


class TestManySteps(LiveCase):
    def some_step(self, chance, book):
        """A step as (kind, argument), which may be refused."""
        kind = chance.choice(["add", "hear", "leave", "leave"])
        if kind == "leave":
            entries = entries_by_hand(book)
            return kind, chance.choice(entries or [("deed", 0)])
        places = chance.choice([book.houses(), book.stands()])
        return kind, (chance.choice(places), chance.choice(["x", "y", "z", None]), chance.choice(places))

    def test_what_is_told_is_what_books_made_anew_tell(self):
        chance = random.Random(SEED)
        refused = undone = 0
        for _ in range(12):
            book = book_by_chance(chance)
            live, books, log = Live(book), [book], []
            for _ in range(40):
                kind, step = self.some_step(chance, books[-1])
                if chance.random() < 0.3 and log:
                    live.back()
                    log.pop()
                    books.pop()
                    undone += 1
                else:
                    try:
                        getattr(live, kind)(step)
                    except (InvalidItem, InvalidList):
                        refused += 1
                    else:
                        log.append((kind, step))
                        books.append(self.book_behind(books[-1], kind, step))
                made = changed(books[-1])
                self.stands_as(live, made, log)
                self.assertTrue(live == Live(made))
                goal = chance.choice(goals_of(made))
                self.same(live.least_number(goal), least_number(made, goal))
                well = chance.sample(made.stands(), chance.randint(0, len(made.stands())))
                self.same(live.lasting(well), lasting(made, well))
            self.same(table(live.shown()), table(changed(books[-1])))
        self.assertGreater(min(refused, undone), 30)

    def book_behind(self, book, kind, step):
        if kind == "leave":
            return without_by_hand(book, step)
        part = {"add": "deeds", "hear": "hearings"}[kind]
        return changed(book, **{part: getattr(book, part)() + [step]})


if __name__ == "__main__":
    unittest.main()
