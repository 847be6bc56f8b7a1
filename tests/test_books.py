"""[10] and [11]: books; [1] and [2] as far as they speak of books."""
import unittest
import unittest.mock

from hushedasks.books import Book
from hushedasks.errors import HushError, InvalidItem, InvalidList
from samples import DEEDS, HEARINGS, any_values, mend_book

PARTS = ("houses", "stands", "deeds", "hearings", "lost")


def parts(**other):
    """The five lists of a small book, with others in place of some."""
    made = {
        "houses": ["idle", "mends"],
        "stands": ["lacks", "has"],
        "deeds": [("lacks", "ask", "has"), ("mends", None, "idle")],
        "hearings": [("lacks", "mend", "has"), ("idle", "ask", "mends")],
        "lost": ["mend", "ask"],
    }
    made.update(other)
    return made


def lists_of(book):
    return [book.houses(), book.stands(), book.deeds(), book.hearings(), book.lost()]


class BookCase(unittest.TestCase):
    def raises(self, kind, field, **other):
        """Check that a book with these parts raises this very kind with this very object."""
        with self.assertRaises(HushError) as caught:
            Book(**parts(**other))
        self.assertIs(type(caught.exception), kind)
        self.assertIs(caught.exception.value, field)

    def makes(self, **other):
        """Check that a book can be made of these parts, and keeps them."""
        made = parts(**other)
        self.assertEqual(lists_of(Book(**made)), [made[part] for part in PARTS])


class TestWhatIsKept(BookCase):
    def test_by_position_and_by_name(self):
        made = parts()
        by_name = Book(lost=made["lost"], hearings=made["hearings"], deeds=made["deeds"],
                       stands=made["stands"], houses=made["houses"])
        by_place = Book(made["houses"], made["stands"], made["deeds"], made["hearings"], made["lost"])
        self.assertEqual(lists_of(by_name), lists_of(by_place))
        self.assertEqual(lists_of(by_name), [made[part] for part in PARTS])

    def test_the_order_given_is_kept(self):
        self.makes(houses=["z", "m", "a"], stands=["d", "c", "y", "b"], deeds=[("z", "x", "a"), ("b", None, "d")],
                   hearings=[("y", "x", "b"), ("a", "x", "z")], lost=["w", "b", "a"])

    def test_the_least_and_the_most_of_each_list(self):
        self.makes(houses=["a"], stands=["b"], deeds=[], hearings=[], lost=[])
        self.makes(houses=["a", "b", "c"], stands=["d", "e", "f", "g"], deeds=[("a", None, "a")] * 10,
                   hearings=[("a", sound, "a") for sound in "abcdefghijkl"], lost=["w", "x", "y", "z"])
        self.makes(deeds=[("lacks", "ask", "has")], hearings=[("has", "ask", "has")], lost=["ask"])

    def test_names_of_one_and_of_eight_letters(self):
        self.makes(houses=["a", "z"], stands=["abcdefgh", "zyxwvuts"], deeds=[("a", "qrstuvwx", "z")],
                   hearings=[("abcdefgh", "h", "zyxwvuts")], lost=["hhhhhhhh", "h"])

    def test_equal_deeds_may_stand_twice(self):
        self.makes(deeds=[("lacks", "ask", "has"), ("lacks", "ask", "has")])

    def test_a_deed_may_stay_at_its_place_and_need_no_sound(self):
        self.makes(deeds=[("lacks", None, "lacks"), ("idle", None, "idle"), ("idle", "has", "mends")])

    def test_hearings_may_share_a_place_or_a_sound(self):
        self.makes(hearings=[("lacks", "a", "has"), ("lacks", "b", "has"), ("has", "a", "has"), ("idle", "a", "idle")])

    def test_lost_may_be_any_names(self):
        self.makes(lost=["idle", "lacks", "never", "said"])

    def test_lists_handed_in_are_not_changed_and_later_changes_have_no_effect(self):
        made = parts()
        book = Book(**made)
        self.assertEqual(made, parts())
        for part in PARTS:
            made[part].clear()
        self.assertEqual(lists_of(book), list(parts().values()))

    def test_each_returned_list_is_new(self):
        book = mend_book()
        for ask in (book.houses, book.stands, book.deeds, book.hearings, book.lost, book.sounds):
            first = ask()
            self.assertIsNot(first, ask())
            kept = list(first)
            first.append("more")
            self.assertEqual(ask(), kept)

    def test_kinds_of_what_is_returned(self):
        book = Book(**parts())
        for given in lists_of(book) + [book.sounds()]:
            self.assertIs(type(given), list)
        for given in book.deeds() + book.hearings():
            self.assertIs(type(given), tuple)


class TestSounds(BookCase):
    def test_in_order_each_once_and_only_those_of_deeds(self):
        book = Book(**parts(deeds=[("lacks", "zz", "has"), ("idle", "b", "idle"), ("lacks", None, "has"),
                                   ("has", "zz", "has"), ("has", "a", "has")]))
        self.assertEqual(book.sounds(), ["a", "b", "zz"])

    def test_of_the_example(self):
        self.assertEqual(mend_book().sounds(), ["ask", "mend"])

    def test_none_without_deeds_or_with_deeds_without_a_sound(self):
        self.assertEqual(Book(**parts(deeds=[])).sounds(), [])
        self.assertEqual(Book(**parts(deeds=[("idle", None, "mends")])).sounds(), [])


class TestEquality(BookCase):
    def test_equal_lists_make_equal_books(self):
        self.assertTrue(Book(**parts()) == Book(**parts()))
        self.assertFalse(Book(**parts()) != Book(**parts()))

    def test_each_list_counts_and_its_order(self):
        book = Book(**parts())
        for part in ("houses", "stands", "deeds", "hearings", "lost"):
            turned = Book(**parts(**{part: parts()[part][::-1]}))
            self.assertFalse(book == turned, part)
            self.assertTrue(book != turned, part)
        for part in ("deeds", "hearings", "lost"):
            self.assertFalse(book == Book(**parts(**{part: []})), part)

    def test_a_book_is_equal_to_nothing_else(self):
        book = Book(**parts())
        for value in any_values() + [list(parts().values()), tuple(parts().values()), parts(), unittest.mock.ANY]:
            self.assertIs(book == value, False)
            self.assertIs(book != value, True)


class TestLists(BookCase):
    def test_what_is_no_list(self):
        for part in PARTS:
            for value in any_values() + [mend_book(), tuple(parts()[part]), {x: x for x in parts()[part]}, "abc"]:
                if not isinstance(value, list):
                    self.raises(InvalidList, value, **{part: value})

    def test_too_few(self):
        empty = []
        self.raises(InvalidList, empty, houses=empty)
        self.raises(InvalidList, empty, stands=empty)

    def test_too_many(self):
        for part, value in (
            ("houses", ["a", "b", "c", "d"]),
            ("stands", ["a", "b", "c", "d", "e"]),
            ("deeds", [("idle", None, "idle")] * 11),
            ("hearings", [("idle", sound, "idle") for sound in "abcdefghijklm"]),
            ("lost", ["a", "b", "c", "d", "e"]),
            ("lost", [1, 2, 3, 4, 5]),
        ):
            self.raises(InvalidList, value, **{part: value})


class TestNames(BookCase):
    WRONG = ["", "abcdefghi", "A", "aB", "a1", "a b", " a", "a\n", "a_", "\u00e4", "\u0430", "\u017f", None, True, 0,
             ["a"], ("a",), {"a": 1}, (), []]

    def test_what_is_no_name(self):
        for wrong in self.WRONG + any_values() + [mend_book()]:
            self.raises(InvalidItem, wrong, houses=["idle", wrong, "mends"])
            self.raises(InvalidItem, wrong, houses=[wrong, "idle", "mends"])
            self.raises(InvalidItem, wrong, stands=["lacks", "has", wrong])
            self.raises(InvalidItem, wrong, lost=[wrong, "mend"])

    def test_the_first_wrong_item_is_told(self):
        first, second = ["x"], ["x"]
        for part in ("houses", "stands", "lost"):
            self.raises(InvalidItem, first, **{part: [first, second]})

    def test_names_that_stand_ahead(self):
        # Joined when the test runs, so that the second one is another object.
        again = "".join(["me", "nds"])
        self.raises(InvalidItem, again, houses=["mends", "idle", again])
        again = "".join(["la", "cks"])
        self.raises(InvalidItem, again, stands=["lacks", again])
        again = "".join(["as", "k"])
        self.raises(InvalidItem, again, lost=["ask", "mend", again])

    def test_stands_that_are_houses(self):
        again = "".join(["me", "nds"])
        self.raises(InvalidItem, again, stands=["lacks", again, "has"])
        self.raises(InvalidItem, again, stands=[again, "lacks", 7])

    def test_a_name_ahead_of_what_is_no_name(self):
        again, wrong = "".join(["la", "cks"]), "L"
        self.raises(InvalidItem, again, stands=["lacks", again, wrong])
        self.raises(InvalidItem, wrong, stands=["lacks", wrong, again])


class TestDeeds(BookCase):
    WRONG = [
        ["lacks", "ask", "has"], ("lacks", "ask"), ("lacks", "ask", "has", "has"), "lacks", None, (), 3, True,
        ("lacks", "ask", "idle"), ("idle", "ask", "lacks"), ("lacks", "ask", "gone"), ("gone", "ask", "lacks"),
        ("gone", "ask", "gone"), ("lacks", "Ask", "has"), ("lacks", "", "has"), ("lacks", "abcdefghi", "has"),
        ("lacks", False, "has"), ("lacks", 0, "has"), ("lacks", ["ask"], "has"), (None, "ask", "has"),
        ("lacks", "ask", None), (["lacks"], "ask", "has"), ("lacks", "ask", ["has"]), ({}, {}, {}), ((), (), ()),
        (True, None, False),
    ]

    def test_what_is_no_deed_and_no_hearing(self):
        for wrong in self.WRONG + any_values() + [mend_book(), (mend_book(), "a", mend_book())]:
            self.raises(InvalidItem, wrong, deeds=[("lacks", "ask", "has"), wrong])
            self.raises(InvalidItem, wrong, deeds=[wrong])
            self.raises(InvalidItem, wrong, hearings=[("lacks", "ask", "has"), wrong])

    def test_a_hearing_needs_a_sound(self):
        wrong = ("lacks", None, "has")
        self.raises(InvalidItem, wrong, hearings=[wrong])

    def test_the_first_wrong_item_is_told(self):
        first, second = ["x"], ["x"]
        self.raises(InvalidItem, first, deeds=[("lacks", "ask", "has"), first, second])
        self.raises(InvalidItem, first, hearings=[first, second])

    def test_hearings_with_a_place_and_a_sound_that_stand_ahead(self):
        for again in (("lacks", "ask", "has"), ("lacks", "ask", "lacks")):
            self.raises(InvalidItem, again, hearings=[("lacks", "ask", "has"), ("has", "ask", "has"), again, None])

    def test_a_wrong_hearing_ahead_of_one_that_stands_twice(self):
        wrong, again = (), ("lacks", "ask", "has")
        self.raises(InvalidItem, wrong, hearings=[("lacks", "ask", "has"), wrong, again])


class TestOrderOfErrors(BookCase):
    def test_the_first_list_that_is_wrong_is_told(self):
        item = 7
        wrong = {"houses": [item], "stands": ["a", item], "deeds": [item], "hearings": [item], "lost": [item]}
        for at, part in enumerate(PARTS):
            later = {name: None for name in PARTS[at + 1:]}
            self.raises(InvalidItem, item, **{part: wrong[part]}, **later)
            self.raises(InvalidList, None, **{part: None}, **{name: wrong[name] for name in PARTS[at + 1:]})

    def test_the_number_of_items_comes_ahead_of_the_items(self):
        for part, many in (("houses", 4), ("stands", 5), ("deeds", 11), ("hearings", 13), ("lost", 5)):
            value = [7] * many
            self.raises(InvalidList, value, **{part: value})

    def test_lists_are_not_changed_by_an_error(self):
        made = parts(lost=["x", "x"])
        with self.assertRaises(InvalidItem):
            Book(**made)
        self.assertEqual(made, parts(lost=["x", "x"]))


class TestTheSamples(BookCase):
    def test_they_are_what_they_are_said_to_be(self):
        self.assertEqual(lists_of(mend_book(["ask"])),
                         [["idle", "mends"], ["lacks", "waits", "has"], DEEDS, HEARINGS, ["ask"]])


if __name__ == "__main__":
    unittest.main()
