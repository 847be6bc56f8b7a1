"""Up to the limits, within seconds.

[3]: hundreds of least lots, least numbers of 10, lots of 12 listeners. [40], [66], [71] and [75]: tables and spare
entries of two houses and three stands, 200 steps of live books and of libraries, texts of 3,000 signs, 8 books.
"""
import time
import unittest

from hushedasks.books import Book
from hushedasks.errors import InvalidText
from hushedasks.lacks import alone, lack_run, lasting
from hushedasks.library import Library
from hushedasks.live import Live
from hushedasks.lots import bar, comes_to, is_bar, least_lots
from hushedasks.numbers import beginning, least_number, run_to
from hushedasks.rows import least_for_log, least_for_row, run_of_log, run_of_row
from hushedasks.runs import is_run, led
from hushedasks.tables import beyond, first_unlike, spare, table, without
from hushedasks.texts import read_book, text_of
from samples import Case

SECONDS = 10
HOUSES = ["ha", "hb", "hc"]
STANDS = ["sa", "sb", "sc", "sd"]

# Books that were sought for goals with nearly 600 least lots, some of them with 10 listeners.
TEN = (
    ["sd u sd", "sa u sd", "sd y sd", "sa u sc", "sc y sd", "sa u sd", "sb z sc", "sd x sc", "hb u hb", "sc y sb"],
    ["sa x sb", "sa u sc", "sb x sc", "sb y sa", "hc y ha", "sb z sa", "sd y sa", "hb x ha", "ha x hb", "ha u hc",
     "sc y sa", "hc u hc"],
    ["z"],
)
BARRED = (
    ["sa z sc", "sc y sd", "hc z hb", "ha x hb", "hc x hb", "sb z sb", "sa x sd", "sc z sd", "ha z hb", "hc u hb"],
    ["sc x sb", "ha z hc", "sa y sd", "hb y ha", "sb z sc", "sa z sd", "sb u sd", "sd u sc", "sb y sa", "hc z hb",
     "sc z sd", "hb u hb"],
    ["x"],
)
ROW = (
    ["sc z sd", "sa y sd", "sa y sd", "sa u sd", "ha u ha", "ha u ha", "sb y sd", "ha x hc", "ha _ hc", "hc x hc"],
    ["sa x sb", "sa y sc", "sc z sa", "sa z sc", "sb x sd", "sc u sd", "sa u sd", "hc z hb", "sb y sa", "sd z sc",
     "sb z sc", "hb z hc"],
    ["y"],
)

# A book of two houses and three stands that was sought for small goals with many great least lots.
SMALL = Book(
    ["ha", "hb"], ["sb", "sc", "sa"],
    [("sb", "w", "sb"), ("sa", "z", "sb"), ("sa", "w", "sb"), ("sc", "w", "sb"), ("sa", "w", "sb"), ("sc", "x", "sb"),
     ("hb", "y", "hb"), ("sc", "z", "sb"), ("sa", "y", "sb"), ("sa", None, "sb")],
    [("hb", "w", "hb"), ("sb", "y", "sb"), ("sa", "x", "sb"), ("sb", "w", "sc"), ("hb", "x", "hb"), ("ha", "w", "hb"),
     ("sa", "z", "sc"), ("sa", "y", "sb"), ("sc", "x", "sa"), ("sa", "w", "sc"), ("hb", "y", "ha"), ("sc", "y", "sc")],
    ["z"],
)


def book_of(parts, house, stand):
    """A book of such parts that begins with the house and the listeners there."""
    def told(rows):
        return [tuple(None if word == "_" else word for word in row.split()) for row in rows]

    deeds, hearings, lost = parts
    houses = [house] + [other for other in HOUSES if other != house]
    stands = [stand] + [other for other in STANDS if other != stand]
    return Book(houses, stands, told(deeds), told(hearings), list(lost))


def goal_of(book, house, many):
    return (house, [many.get(stand, 0) for stand in book.stands()])


def loud_book():
    """A book in which every one hears everything, or not."""
    deeds = [(place, sound, place) for place in STANDS for sound in ("x", "y")] + [("ha", "x", "hb"), ("hb", "z", "ha")]
    hearings = [(stand, sound, STANDS[(at + step) % 4]) for at, stand in enumerate(STANDS)
                for step, sound in ((1, "x"), (2, "y"), (3, "z"))]
    return Book(HOUSES, STANDS, deeds, hearings, ["x", "y", "z"])


class TestLimits(Case):
    def setUp(self):
        self.started = time.monotonic()

    def tearDown(self):
        self.assertLess(time.monotonic() - self.started, SECONDS)

    def check_run(self, book, goal, lot, run):
        self.assertIs(is_run(book, lot, run), True)
        house, counts = led(book, lot, run)
        self.assertIn(goal[0], (None, house))
        self.assertTrue(all(x >= y for x, y in zip(counts, goal[1])))

    def test_a_least_number_of_ten(self):
        book = book_of(TEN, "ha", "sa")
        goal = goal_of(book, "ha", {"sa": 1, "sd": 2})
        lots = least_lots(book, goal)
        self.assertEqual(len(lots), 595)
        self.assertEqual(max(sum(counts) for _, counts in lots), 10)
        self.same(least_number(book, goal), 10)
        self.assertIsNone(bar(book, goal))
        self.assertIs(is_bar(book, goal, lots), False)
        run = run_to(book, goal)
        self.assertEqual(len(run), 12)
        self.check_run(book, goal, beginning(book, 10), run)
        self.assertIsNone(comes_to(book, beginning(book, 9), goal))
        for lot in lots[::60]:
            self.check_run(book, goal, lot, comes_to(book, lot, goal))

    def test_a_bar_of_hundreds_of_lots(self):
        book = book_of(BARRED, "ha", "sd")
        goal = goal_of(book, "hc", {"sa": 1, "sb": 1, "sc": 1})
        self.assertIsNone(least_number(book, goal))
        self.assertIsNone(run_to(book, goal))
        lots = bar(book, goal)
        self.assertEqual(len(lots), 598)
        self.assertEqual(max(sum(counts) for _, counts in lots), 10)
        self.assertIs(is_bar(book, goal, lots), True)
        for at in (0, 299, 597):
            self.assertIs(is_bar(book, goal, lots[:at] + lots[at + 1:]), False)
            self.assertIs(is_bar(book, goal, lots[:at] + lots[at + 1:] + [beginning(book, 6)]), False)

    def test_lacks(self):
        book = book_of(BARRED, "hc", "sa")
        found = lasting(book, [])
        self.assertEqual(found, sorted(found))
        for house, stand, number in found:
            run = lack_run(book, house, stand)
            self.same(led(book, beginning(book, number), run), (house, [int(other == stand) for other in book.stands()]))
            self.assertIn(stand, alone(book, house, stand))

    def test_rows_and_logs(self):
        book = book_of(ROW, "ha", "sa")
        for sounds in (["z", "u", "z"], ["u", "u", "u"], ["x", "z", "y"], ["y", "y", "z"]):
            for least, run_of in ((least_for_row, run_of_row), (least_for_log, run_of_log)):
                number, run = least(book, sounds), run_of(book, sounds)
                self.assertIs(number is None, run is None)
                if run is not None:
                    self.assertIs(is_run(book, beginning(book, number), run), True)

    def test_lots_of_twelve_listeners_of_whom_any_can_hear(self):
        book = loud_book()
        lot = ("ha", [3, 3, 3, 3])
        self.assertIsNone(comes_to(book, lot, ("hc", [0, 0, 0, 0])))
        self.assertIsNone(comes_to(book, lot, ("hb", [0, 0, 0, 13])))
        goal = ("hb", [0, 0, 0, 3])
        self.check_run(book, goal, beginning(book, 10), comes_to(book, beginning(book, 10), goal))
        self.assertIsNone(comes_to(book, beginning(book, 2), goal))
        run = comes_to(book, beginning(book, 10), ("ha", [0, 0, 0, 10]))
        self.check_run(book, ("ha", [0, 0, 0, 10]), beginning(book, 10), run)

    def test_rows_of_three_sounds_with_many_stages(self):
        book = loud_book()
        for sounds in (["x", "y", "z"], ["z", "z", "z"], ["z", "y", "w"]):
            said = "w" not in sounds
            self.same(least_for_row(book, sounds), {"x": 1, "z": 0}[sounds[0]] if said else None)
            self.assertIs(run_of_log(book, sounds) is None, not said or sounds[0] == "z")

    def test_tables_and_spare_entries(self):
        rows = table(SMALL)
        self.assertEqual(len(rows), 18)
        self.assertEqual(max(number or 0 for _, _, number in rows), 8)
        found = spare(SMALL)
        self.assertLessEqual({("hearing", 1), ("hearing", 4)}, set(found))
        for entry in [("deed", at) for at in range(10)] + [("hearing", at) for at in range(12)] + [("lost", "z")]:
            later = without(SMALL, entry)
            self.assertIs(entry in found, first_unlike(SMALL, later) is None)
            if entry in found:
                self.assertIsNone(beyond(SMALL, later))
                self.assertIsNone(beyond(later, SMALL))
        # Beyond the limits, too, it ends soon.
        self.assertEqual(len(table(book_of(TEN, "ha", "sa"))), 42)

    def test_two_hundred_steps_of_a_live_book(self):
        live = Live(without(SMALL, ("deed", 9)))
        books = [live.shown()]
        for step in range(66):
            live.add(("sa", "xyz"[step % 3], "sb"))
            books.append(live.shown())
            live.leave(("deed", step % 10))
            books.append(live.shown())
        self.assertEqual(len(live.log()), 132)
        other = live.copy()
        for at in range(68):
            self.assertTrue(live.shown() == books[132 - at])
            self.same(live.least_number(("hb", [1, 0, 0])), least_number(books[132 - at], ("hb", [1, 0, 0])))
            self.same(live.lasting(["sa"]), lasting(books[132 - at], ["sa"]))
            live.back()
        self.assertEqual(live.log(), other.log()[:64])
        self.assertTrue(other.shown() == books[132])

    def test_texts_of_three_thousand_signs(self):
        text = text_of(SMALL)
        for more in (" ", "\n", " \n"):
            long = more * 50 + text.replace("\n", (more + "\n") * 10).replace(" ", " " * 4) + more * 50
            long = long + " " * (3000 - len(long))
            self.assertGreaterEqual(len(long), 3000)
            self.assertTrue(read_book(long) == SMALL)
        for long in (" " * 3000, "\n" * 3000, "deed " * 600, "houses a\n" * 333, "a" * 3000, text + "\ndeed a x b" * 200):
            self.raises(InvalidText, long, read_book, long)

    def test_two_hundred_steps_of_a_library_of_eight_books(self):
        library = Library()
        names = ["b" + letter for letter in "hgfedcba"]
        for at, name in enumerate(names):
            library.put(name, without(SMALL, ("deed", at)))
        whole = library.copy()
        for step in range(124):
            name = names[step % 8]
            if step % 16 < 8:
                library.change(name, SMALL)
            else:
                library.change(name, whole.book_of(name))
        self.same(library.alike(SMALL), sorted(
            name for name in names if first_unlike(library.book_of(name), SMALL) is None
        ))
        for row in (["w", "z", "y"], ["x", "x", "x"], ["y"]):
            self.same(library.bearing(row), sorted(
                name for name in names if least_for_row(library.book_of(name), row) is not None
            ))
        for _ in range(68):
            library.back()
        self.assertEqual(len(library.log()), 64)
        self.assertEqual((len(library), list(library)), (8, sorted(names)))

    def test_rows_of_eight_great_books(self):
        library = Library()
        for at, parts in enumerate((TEN, BARRED, ROW, TEN, BARRED, ROW, TEN, BARRED)):
            library.put("abcdefgh"[at], book_of(parts, HOUSES[at % 3], STANDS[at % 4]))
        for row in (["z", "u", "z"], ["y", "y", "y"], ["x", "w", "x"]):
            self.same(library.bearing(row), [
                name for name in library if least_for_row(library.book_of(name), row) is not None
            ])


if __name__ == "__main__":
    unittest.main()
