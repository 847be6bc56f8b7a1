"""[75], [76] and [77]: libraries; [1] and [2] as far as they speak of these."""
import random
import unittest
import unittest.mock

from hushedasks.books import Book
from hushedasks.errors import (
    InvalidBook, InvalidItem, InvalidList, InvalidName, NothingToUndo, TakenName, UnknownName,
)
from hushedasks.library import Library
from hushedasks.live import Live
from hushedasks.rows import least_for_row
from hushedasks.tables import first_unlike
from samples import Case, any_values, mend_book
from test_tables import book_by_chance, changed

SEED = 20261123
WRONG_NAMES = ["", "A", "aB", "a1", "a b", " a", "a\n", "abcdefghi", "\u00e4", "a_", ["a"], ("a",), {"a": "a"}]


def some_library(*names):
    """A library that keeps `mend_book` by some names."""
    library = Library()
    for name in names:
        library.put(name, mend_book())
    return library


class LibraryCase(Case):
    def keeps(self, library, books, log):
        """Check all that a library tells of what it keeps, and of its steps."""
        self.same(library.names(), sorted(books))
        self.same(len(library), len(books))
        self.same([name for name in library], sorted(books))
        self.same(list(library), sorted(books))
        for name in books:
            self.assertTrue(library.book_of(name) == books[name])
            self.assertIs(name in library, True)
        self.same(library.log(), log)

    def refuses(self, kind, field, library, method, *arguments):
        """Check that a call raises this error with this very field, and changes nothing."""
        books, log = {name: library.book_of(name) for name in library.names()}, library.log()
        self.raises(kind, field, getattr(library, method), *arguments)
        self.keeps(library, books, log)

    def refuses_to_go_back(self, library):
        books = {name: library.book_of(name) for name in library.names()}
        with self.assertRaises(NothingToUndo):
            library.back()
        self.keeps(library, books, [])


class TestKeeping(LibraryCase):
    def test_an_empty_one(self):
        self.keeps(Library(), {}, [])
        self.same(Library().alike(mend_book()), [])
        self.same(Library().bearing(["ask"]), [])

    def test_put(self):
        library, books = Library(), {}
        for name in ("m", "abcdefgh", "z", "a", "deed", "put", "zz", "names"):
            book = mend_book([name])
            self.assertIsNone(library.put(name, book))
            books[name] = book
            self.keeps(library, books, [("put", other) for other in books])

    def test_drop(self):
        library = some_library("b", "c", "a")
        self.assertIsNone(library.drop("b"))
        log = [("put", "b"), ("put", "c"), ("put", "a"), ("drop", "b")]
        self.keeps(library, {"a": mend_book(), "c": mend_book()}, log)
        self.assertIsNone(library.put("b", mend_book([])))
        self.keeps(library, {"a": mend_book(), "b": mend_book([]), "c": mend_book()}, log + [("put", "b")])
        for name in "abc":
            library.drop(name)
        self.assertEqual(library.names(), [])

    def test_change(self):
        library = some_library("b", "a")
        self.assertIsNone(library.change("b", mend_book([])))
        log = [("put", "b"), ("put", "a"), ("change", "b")]
        self.keeps(library, {"a": mend_book(), "b": mend_book([])}, log)
        library.change("b", mend_book([]))
        self.keeps(library, {"a": mend_book(), "b": mend_book([])}, log + [("change", "b")])

    def test_lists_that_are_changed_later(self):
        lists = [["a"], ["b"], [("b", None, "b")], [], ["x"]]
        library = Library()
        library.put("book", Book(*lists))
        for part in lists:
            part.clear()
        library.book_of("book").deeds().clear()
        self.keeps(library, {"book": Book(["a"], ["b"], [("b", None, "b")], [], ["x"])}, [("put", "book")])


class TestWrongSteps(LibraryCase):
    def test_names(self):
        for library in (Library(), some_library("a", "b")):
            for value in any_values() + WRONG_NAMES + [mend_book(), some_library()]:
                for book in (mend_book(), None, value):
                    self.refuses(InvalidName, value, library, "put", value, book)

    def test_names_that_are_taken(self):
        library = some_library("ask", "b")
        again = "".join(["a", "sk"])
        for book in (mend_book(), mend_book([]), None, again):
            self.refuses(TakenName, again, library, "put", again, book)

    def test_names_that_are_not_kept(self):
        for library in (Library(), some_library("a", "b")):
            for value in any_values() + WRONG_NAMES + ["c", "aa", "names", mend_book(), ["a", "b"], library]:
                self.refuses(UnknownName, value, library, "drop", value)
                self.refuses(UnknownName, value, library, "book_of", value)
                for book in (mend_book(), None, value):
                    self.refuses(UnknownName, value, library, "change", value, book)
        library = some_library("a", "b")
        library.drop("a")
        for method, arguments in (("drop", ()), ("book_of", ()), ("change", (mend_book(),))):
            self.refuses(UnknownName, "a", library, method, "a", *arguments)
        library.back()
        library.back()
        self.refuses(UnknownName, "b", library, "drop", "b")

    def test_books(self):
        library = some_library("a", "b")
        for value in any_values() + ["a", "b", Live(mend_book()), library, [mend_book()], Book]:
            self.refuses(InvalidBook, value, library, "put", "c", value)
            self.refuses(InvalidBook, value, library, "change", "a", value)
            self.refuses(InvalidBook, value, library, "alike", value)
            self.raises(InvalidBook, value, Library().alike, value)

    def test_rows(self):
        for library in (Library(), some_library("a", "b")):
            for value in any_values() + [("ask",), "ask", ["ask"] * 4, [], [None] * 4, mend_book()]:
                if not isinstance(value, list) or len(value) not in (1, 2, 3):
                    self.refuses(InvalidList, value, library, "bearing", value)
            for value in any_values() + ["ASK", "abcdefghi", ["ask"], mend_book()]:
                for row in ([value], ["ask", value, 1], ["gone", "ask", value]):
                    self.refuses(InvalidItem, value, library, "bearing", row)


class TestWhatIsTold(LibraryCase):
    def shelf(self):
        """A library of books of which some are alike, and some bear what others do not."""
        library = Library()
        library.put("sure", mend_book([]))
        library.put("mends", mend_book())
        library.put("again", changed(mend_book(), deeds=mend_book().deeds() + [("lacks", "ask", "waits")]))
        library.put("asks", mend_book(["ask"]))
        library.put("turned", Book(["mends", "idle"], ["lacks", "waits", "has"], [], [], []))
        library.put("small", Book(["idle"], ["lacks", "waits"], [], [], []))
        library.put("none", Book(["idle", "mends"], ["lacks", "waits", "has"], [], [], []))
        return library

    def test_alike(self):
        library = self.shelf()
        self.same(library.alike(mend_book()), ["again", "mends"])
        self.same(library.alike(mend_book(["mend", "gone"])), ["again", "mends"])
        self.same(library.alike(mend_book([])), ["sure"])
        self.same(library.alike(Book(["idle", "mends"], ["lacks", "waits", "has"], [], [], ["ask"])), ["none"])
        self.same(library.alike(Book(["mends", "idle"], ["lacks", "waits", "has"], [], [], [])), ["turned"])
        self.same(library.alike(Book(["idle"], ["lacks", "waits"], [], [], [])), ["small"])
        self.same(library.alike(Book(["idle"], ["waits", "lacks"], [], [], [])), [])
        self.same(library.alike(mend_book(["ask", "mend"])), [])

    def test_bearing(self):
        library = self.shelf()
        self.same(library.bearing(["ask"]), ["again", "asks", "mends", "sure"])
        self.same(library.bearing(["ask", "ask"]), ["asks"])
        self.same(library.bearing(["ask", "mend"]), ["again", "asks", "mends", "sure"])
        self.same(library.bearing(["mend", "ask"]), [])
        self.same(library.bearing(["gone"]), [])
        library.put("loud", Book(["h"], ["s"], [("h", "ask", "h")], [], []))
        # A number of listeners of 0 is a number, too.
        self.same(library.bearing(["ask", "ask", "ask"]), ["asks", "loud"])

    def test_after_steps(self):
        library = self.shelf()
        library.drop("again")
        library.change("small", mend_book())
        self.same(library.alike(mend_book()), ["mends", "small"])
        self.same(library.bearing(["ask"]), ["asks", "mends", "small", "sure"])
        library.back()
        library.back()
        self.same(library.alike(mend_book()), ["again", "mends"])

    def test_any_value_asked_with_in(self):
        library = some_library("a", "ask")
        for value in any_values() + WRONG_NAMES + [mend_book(), library, Live(mend_book()), "b", "s", ["a", "ask"]]:
            self.assertIs(value in library, False)
            self.assertIs(value not in library, True)
        for value in ("a", "".join(["as", "k"])):
            self.assertIs(value in library, True)
            self.assertIs(value not in library, False)
        self.assertIs("a" in Library(), False)

    def test_loops_over_a_library_that_is_changed_within(self):
        library = some_library("b", "d", "a")
        seen = []
        for name in library:
            seen.append(name)
            if name == "a":
                library.drop("b")
                library.put("c", mend_book())
                library.put("e", mend_book())
        self.assertEqual(seen, ["a", "b", "d"])
        self.assertEqual(list(library), ["a", "c", "d", "e"])
        for name in library:
            library.drop(name)
        self.assertEqual(len(library), 0)
        for _ in library:
            self.fail("there is no name")

    def test_loops_over_a_library_within_which_steps_are_undone(self):
        library = some_library("c", "a", "b")
        seen = []
        for name in library:
            seen.append(name)
            library.back()
        self.assertEqual(seen, ["a", "b", "c"])
        self.assertEqual(list(library), [])

    def test_two_loops_at_once(self):
        library = some_library("b", "a")
        self.assertEqual([(x, y) for x in library for y in library], [("a", "a"), ("a", "b"), ("b", "a"), ("b", "b")])

    def test_each_list_is_a_new_one(self):
        library = self.shelf()
        for call in (library.names, library.log, lambda: library.alike(mend_book()), lambda: library.bearing(["ask"])):
            first, second = call(), call()
            self.same(first, second)
            self.made_of_plain_kinds(first)
            self.no_list_twice([first, second])
            first.clear()
            self.same(call(), second)
        self.assertEqual(len(library), 7)

    def test_arguments_by_name_and_not_changed(self):
        library, row, book = Library(), ["ask", "mend"], mend_book()
        library.put(book=book, name="a")
        library.put(name="b", book=book)
        library.change(book=mend_book([]), name="a")
        library.drop(name="b")
        self.assertTrue(library.book_of(name="a") == mend_book([]))
        self.same(library.alike(book=mend_book([])), ["a"])
        self.same(library.bearing(row=row), ["a"])
        self.assertEqual(row, ["ask", "mend"])
        self.assertTrue(book == mend_book())


class TestBack(LibraryCase):
    def test_nothing_to_undo(self):
        library = Library()
        self.refuses_to_go_back(library)
        library.put("a", mend_book())
        self.assertIsNone(library.back())
        self.keeps(library, {}, [])
        self.refuses_to_go_back(library)
        with self.assertRaises(UnknownName):
            library.drop("a")
        self.refuses_to_go_back(library)

    def test_steps_of_each_kind(self):
        library = Library()
        steps = [("put", "b", mend_book()), ("put", "a", mend_book([])), ("change", "b", mend_book(["ask"])), ("drop", "a"),
                 ("put", "a", mend_book(["mend", "ask"])), ("drop", "b"), ("change", "a", mend_book())]
        kept = [{}]
        for method, name, *book in steps:
            getattr(library, method)(name, *book)
            books = {other: kept[-1][other] for other in kept[-1] if other != name}
            kept.append({**books, name: book[0]} if book else books)
        log = [step[:2] for step in steps]
        for many in range(len(steps), 0, -1):
            self.keeps(library, kept[many], log[:many])
            self.assertIsNone(library.back())
        self.refuses_to_go_back(library)

    def test_undone_and_done_again(self):
        library = some_library("a")
        library.drop("a")
        library.back()
        library.change("a", mend_book([]))
        library.back()
        library.put("b", mend_book())
        self.keeps(library, {"a": mend_book(), "b": mend_book()}, [("put", "a"), ("put", "b")])

    def test_refused_steps_are_not_undone(self):
        library = some_library("a", "b")
        for method, arguments in (("put", ("a", mend_book())), ("put", ("c", None)), ("drop", ("c",)),
                                  ("change", ("a", None)), ("change", ("c", mend_book()))):
            with self.assertRaises((TakenName, UnknownName, InvalidBook)):
                getattr(library, method)(*arguments)
        library.back()
        self.keeps(library, {"a": mend_book()}, [("put", "a")])


class TestCopies(LibraryCase):
    def test_the_same_books_and_the_same_steps(self):
        library = some_library("b", "a")
        library.change("a", mend_book([]))
        other = library.copy()
        self.assertIs(type(other), Library)
        self.assertIsNot(other, library)
        self.assertIs(other == library, True)
        self.keeps(other, {"a": mend_book([]), "b": mend_book()}, library.log())
        for _ in range(3):
            other.back()
        self.refuses_to_go_back(other)
        self.keeps(library, {"a": mend_book([]), "b": mend_book()}, [("put", "b"), ("put", "a"), ("change", "a")])

    def test_led_on_apart(self):
        library = some_library("a")
        other = library.copy()
        library.put("b", mend_book())
        other.change("a", mend_book([]))
        other.put("c", mend_book())
        self.keeps(library, {"a": mend_book(), "b": mend_book()}, [("put", "a"), ("put", "b")])
        self.keeps(other, {"a": mend_book([]), "c": mend_book()}, [("put", "a"), ("change", "a"), ("put", "c")])
        library.back()
        library.back()
        self.refuses_to_go_back(library)
        self.assertEqual(len(other), 2)

    def test_of_an_empty_one(self):
        self.refuses_to_go_back(Library().copy())
        self.keeps(some_library("a").copy().copy(), {"a": mend_book()}, [("put", "a")])


class TestEquality(LibraryCase):
    def test_equal_books_by_the_same_names(self):
        self.assertIs(Library() == Library(), True)
        self.assertIs(Library() != Library(), False)
        library = some_library("a", "b")
        for other, asked in (
            (some_library("b", "a"), True), (some_library("a"), False), (some_library("a", "c"), False),
            (some_library("a", "b", "c"), False), (Library(), False),
        ):
            self.assertIs(library == other, asked)
            self.assertIs(other == library, asked)
            self.assertIs(library != other, not asked)
        other = some_library("a", "b")
        other.change("b", mend_book([]))
        self.assertIs(library == other, False)
        other.change("b", mend_book())
        self.assertIs(library == other, True)
        self.assertNotEqual(library.log(), other.log())
        other.drop("a")
        other.put("a", mend_book())
        self.assertIs(library == other, True)

    def test_to_nothing_else(self):
        library = some_library("a")
        others = [value for value in any_values() if not isinstance(value, Library)]
        others += [mend_book(), ["a"], {"a": mend_book()}, Live(mend_book()), unittest.mock.ANY, some_library("b")]
        for value in others:
            self.assertIs(library == value, False)
            self.assertIs(library != value, True)
        self.assertIs(mend_book() == library, False)
        self.assertIs(Live(mend_book()) == library, False)


class TestManySteps(LibraryCase):
    NAMES = ["a", "b", "ask", "zz"]

    def test_what_is_told_is_what_libraries_made_anew_tell(self):
        chance = random.Random(SEED)
        seen = set()
        for _ in range(8):
            books = [book_by_chance(chance) for _ in range(4)]
            books.append(changed(books[0], lost=[]))
            library, kept, log = Library(), [{}], []
            for _ in range(40):
                if chance.random() < 0.25 and log:
                    library.back()
                    kept.pop()
                    log.pop()
                else:
                    self.step(chance, library, books, kept, log)
                made = self.made(kept[-1])
                self.keeps(library, kept[-1], log)
                self.assertTrue(library == made)
                book, row = chance.choice(books), [chance.choice("xyz") for _ in range(chance.randint(1, 3))]
                alike = [name for name in sorted(kept[-1]) if self.is_alike(kept[-1][name], book)]
                self.same(library.alike(book), alike)
                self.same(made.alike(book), alike)
                bearing = [name for name in sorted(kept[-1]) if least_for_row(kept[-1][name], row) is not None]
                self.same(library.bearing(row), bearing)
                seen |= {("alike", min(2, len(alike))), ("bearing", min(2, len(bearing)))}
        self.assertEqual(len(seen), 6)

    def made(self, books):
        library = Library()
        for name in books:
            library.put(name, books[name])
        return library

    def is_alike(self, book, other):
        if book.houses() != other.houses() or book.stands() != other.stands():
            return False
        return first_unlike(book, other) is None

    def step(self, chance, library, books, kept, log):
        """Do a step, which may be refused."""
        name, book, method = chance.choice(self.NAMES), chance.choice(books), chance.choice(["put", "put", "change", "drop"])
        now = dict(kept[-1])
        try:
            getattr(library, method)(*([name] if method == "drop" else [name, book]))
        except (TakenName, UnknownName) as caught:
            self.assertIs(type(caught), TakenName if method == "put" else UnknownName)
            self.assertIs(name in now, method == "put")
            return
        if method == "drop":
            del now[name]
        else:
            now[name] = book
        log.append((method, name))
        kept.append(now)


if __name__ == "__main__":
    unittest.main()
