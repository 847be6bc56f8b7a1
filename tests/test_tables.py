"""[40], [41] and [42]: tables, books that are unlike, entries; [1] and [2] as far as they speak of these."""
import copy
import itertools
import random
import unittest

from hushedasks.books import Book
from hushedasks.errors import InvalidBook, InvalidItem
from hushedasks.numbers import beginning, least_number, run_to
from hushedasks.runs import is_run
from hushedasks.tables import beyond, first_unlike, spare, table, without
from samples import Case, any_values, mend_book, run_example
from test_search_by_hand import MOST, at_least, events_to, first_lots, graph_of

EXAMPLE = """
from hushedasks.books import Book
from hushedasks.tables import beyond, first_unlike, spare, table, without
deeds = [("lacks", "ask", "waits"), ("lacks", "call", "waits")]
book = Book(["idle"], ["lacks", "waits"], deeds, [("lacks", "ask", "waits")], ["ask"])
later = without(book, ("hearing", 0))
[table(book), first_unlike(book, later), spare(book), beyond(book, without(without(book, ("deed", 1)), ("deed", 0)))]
# [[('idle', [0, 1], 1), ('idle', [0, 2], 2), ('idle', [1, 0], 1), ('idle', [1, 1], 2), ('idle', [2, 0], 2)], None, [('deed', 0), ('deed', 1), ('hearing', 0), ('lost', 'ask')], ('idle', [0, 1])]
"""
SEED = 20261120
# The small goals' counts of books of one, of two and of three stands, in order.
COUNTS = {
    1: [[1], [2]],
    2: [[0, 1], [0, 2], [1, 0], [1, 1], [2, 0]],
    3: [[0, 0, 1], [0, 0, 2], [0, 1, 0], [0, 1, 1], [0, 2, 0], [1, 0, 0], [1, 0, 1], [1, 1, 0], [2, 0, 0]],
}


def goals_of(book):
    return [(house, counts) for house in sorted(book.houses()) for counts in COUNTS[len(book.stands())]]


def parts_of(book):
    return {"houses": book.houses(), "stands": book.stands(), "deeds": book.deeds(),
            "hearings": book.hearings(), "lost": book.lost()}


def changed(book, **other):
    return Book(**{**parts_of(book), **other})


def two_house_book(lost=()):
    """A book in which the house hears a listener go on by x, and all others at s go on as well, if they hear it."""
    deeds = [("s", "x", "s"), ("s", None, "t")]
    return Book(["a", "b"], ["s", "t"], deeds, [("a", "x", "b"), ("s", "x", "t")], list(lost))


def places_by_chance(chance):
    return ["hb", "ha"][:chance.randint(1, 2)], ["sc", "sa", "sb"][:chance.randint(1, 3)]


def book_by_chance(chance, places=None):
    """A small book of at most two houses and three stands."""
    houses, stands = places or places_by_chance(chance)

    def move(sounds):
        places = chance.choice([houses, stands, stands])
        return (chance.choice(places), chance.choice(sounds), chance.choice(places))

    deeds = [move(["x", "y", "z", None]) for _ in range(chance.randint(0, 5))]
    hearings = {hearing[:2]: hearing for hearing in [move(["x", "y", "z"]) for _ in range(chance.randint(0, 8))]}
    return Book(houses, stands, deeds, list(hearings.values()), chance.sample(["z", "x", "y", "w"], chance.randint(0, 3)))


def without_by_hand(book, entry):
    parts = parts_of(book)
    kind, item = entry
    if kind == "lost":
        parts["lost"] = [sound for sound in parts["lost"] if sound != item]
    else:
        rows = parts[kind + "s"]
        parts[kind + "s"] = rows[:item] + rows[item + 1:]
    return Book(**parts)


def entries_by_hand(book):
    return (
        [("deed", number) for number in range(len(book.deeds()))]
        + [("hearing", number) for number in range(len(book.hearings()))]
        + [("lost", sound) for sound in sorted(book.lost())]
    )


def numbers_by_hand(book):
    """For each small goal the least number of at most MOST listeners, by a search forwards, or None."""
    graph = graph_of(book)
    first = first_lots(book)
    found = []
    for goal in goals_of(book):
        reached = events_to(graph, [key for key in graph if at_least(key, goal)])
        found.append(next((many for many, key in enumerate(first) if key in reached), None))
    return found


def wrong_entries():
    """What is no entry of `mend_book`, which has two deeds, four hearings and the sound mend that can be lost."""
    return any_values() + [
        mend_book(), ["deed", 0], ("deed",), ("deed", 0, 0), ("deed", -1), ("deed", 2), ("deed", True), ("deed", False),
        ("deed", None), ("deed", "0"), ("deed", [0]), ("deed", (0,)), ("deed", "ask"), ("hearing", -1), ("hearing", 4),
        ("hearing", True), ("hearing", False), ("hearing", "mend"), ("lost", "ask"), ("lost", 0), ("lost", None),
        ("lost", ["mend"]), ("lost", ("mend",)), ("lost", True), ("lost", mend_book()), ("deeds", 0), ("hear", 0),
        ("", 0), (None, 0), (0, "deed"), ("mend", "lost"), (["deed"], 0), ({}, 0), (mend_book(), 0), "deed", "lost",
        ("deed", 10 ** 30), ("sounds", "mend"), ("stand", 0), ("fall", "lacks"), ("deed", {0: 0}),
    ]


class TestExample(Case):
    def test_of_the_document(self):
        given, asked = run_example(EXAMPLE)
        self.assertEqual(given, asked)


class TestTable(Case):
    def test_small_goals_of_one_and_two_houses_and_one_to_three_stands(self):
        for houses in (["m"], ["m", "b"], ["b", "m"]):
            for stands in (["z"], ["z", "a"], ["z", "a", "k"]):
                book = Book(houses, stands, [], [], [])
                rows = table(book)
                self.same([row[:2] for row in rows], goals_of(book))
                for house, counts, number in rows:
                    there = house == houses[0] and sum(counts[1:]) == 0
                    self.same(number, counts[0] if there else None)

    def test_of_the_mending_book(self):
        # The first ask is heard by all: from then on nobody lacks, so nobody asks any more.
        mends = [("mends", counts, {(0, 1, 0): 1, (0, 2, 0): 2}.get(tuple(counts))) for counts in COUNTS[3]]
        self.same(table(mend_book()), [
            ("idle", [0, 0, 1], 1), ("idle", [0, 0, 2], 2), ("idle", [0, 1, 0], 1), ("idle", [0, 1, 1], 2),
            ("idle", [0, 2, 0], 2), ("idle", [1, 0, 0], 1), ("idle", [1, 0, 1], None), ("idle", [1, 1, 0], None),
            ("idle", [2, 0, 0], 2),
        ] + mends)
        # Where the mend is heard by all, too, nobody waits any more behind it.
        self.same(table(mend_book([])), [
            ("idle", [0, 0, 1], 1), ("idle", [0, 0, 2], 2), ("idle", [0, 1, 0], None), ("idle", [0, 1, 1], None),
            ("idle", [0, 2, 0], None), ("idle", [1, 0, 0], 1), ("idle", [1, 0, 1], None), ("idle", [1, 1, 0], None),
            ("idle", [2, 0, 0], 2),
        ] + mends)

    def test_numbers_beyond_those_of_the_goals(self):
        book = Book(["a", "b"], ["s", "t"], [("s", "x", "t")], [("a", "x", "b")], [])
        self.same(table(book), [
            ("a", [0, 1], None), ("a", [0, 2], None), ("a", [1, 0], 1), ("a", [1, 1], None), ("a", [2, 0], 2),
            ("b", [0, 1], 1), ("b", [0, 2], 2), ("b", [1, 0], 2), ("b", [1, 1], 2), ("b", [2, 0], 3),
        ])

    def test_as_the_least_numbers_tell(self):
        chance = random.Random(SEED)
        seen = set()
        for _ in range(150):
            book = book_by_chance(chance)
            self.same(table(book), [goal + (least_number(book, goal),) for goal in goals_of(book)])
            seen |= {row[2] for row in table(book)}
        self.assertLessEqual({None, 1, 2, 3}, seen)

    def test_as_a_search_forwards_tells(self):
        chance = random.Random(SEED + 1)
        for _ in range(60):
            book = book_by_chance(chance)
            for (house, counts, number), asked in zip(table(book), numbers_by_hand(book), strict=True):
                if asked is not None:
                    self.assertEqual(number, asked)
                elif number is not None:
                    self.assertGreater(number, MOST)
                    run = run_to(book, (house, counts))
                    self.assertIs(is_run(book, beginning(book, number), run), True)


class TestUnlike(Case):
    def test_at_the_first_small_goal(self):
        book = two_house_book()
        other = without(book, ("deed", 1))
        # Nobody comes to t with the house at a any more.
        self.same(first_unlike(book, other), ("a", [0, 1]))
        self.same(first_unlike(other, book), ("a", [0, 1]))
        self.same(beyond(book, other), ("a", [0, 1]))
        self.assertIsNone(beyond(other, book))

    def test_at_the_last_small_goal(self):
        sure, lossy = two_house_book(), two_house_book(["x"])
        self.same([row for row in table(sure) if row not in table(lossy)], [("b", [2, 0], None)])
        self.same(first_unlike(sure, lossy), ("b", [2, 0]))
        self.same(first_unlike(lossy, sure), ("b", [2, 0]))
        self.same(beyond(lossy, sure), ("b", [2, 0]))
        self.assertIsNone(beyond(sure, lossy))

    def test_at_no_small_goal(self):
        for book in (mend_book(), two_house_book(), Book(["h"], ["s"], [], [], [])):
            same = changed(book)
            self.assertIsNone(first_unlike(book, book))
            self.assertIsNone(first_unlike(book, same))
            self.assertIsNone(beyond(book, same))
        more = changed(mend_book(), lost=["mend", "gone"])
        self.assertIsNone(first_unlike(mend_book(), more))
        self.assertIsNone(beyond(mend_book(), more))

    def test_a_number_that_is_less_and_one_where_there_is_none(self):
        hard = Book(["a", "b"], ["s", "t"], [("s", "x", "t")], [("a", "x", "b")], [])
        easy = changed(hard, deeds=[("s", "x", "s"), ("s", "x", "t")])
        # With the house at b and one at s: 2 in the one, 1 in the other.
        self.same(first_unlike(hard, easy), ("b", [1, 0]))
        self.same(beyond(easy, hard), ("b", [1, 0]))
        self.assertIsNone(beyond(hard, easy))

    def test_what_is_unlike_ahead_of_what_is_beyond(self):
        still = Book(["a", "b"], ["s", "t"], [("s", None, "t")], [], [])
        moves = Book(["a", "b"], ["s", "t"], [("a", None, "b")], [], [])
        self.same(first_unlike(still, moves), ("a", [0, 1]))
        self.same(beyond(still, moves), ("a", [0, 1]))
        self.same(first_unlike(moves, still), ("a", [0, 1]))
        # What the other one comes to alone, or with fewer, is passed by.
        self.same(beyond(moves, still), ("b", [1, 0]))

    def test_as_the_tables_tell(self):
        chance = random.Random(SEED + 2)
        places = set()
        for _ in range(200):
            there = places_by_chance(chance)
            book, other = book_by_chance(chance, there), book_by_chance(chance, there)
            unlike, less = None, None
            for (house, counts, number), (_, _, others) in reversed(list(zip(table(book), table(other)))):
                if number != others:
                    unlike = (house, counts)
                if number is not None and (others is None or number < others):
                    less = (house, counts)
            self.same(first_unlike(book, other), unlike)
            self.same(first_unlike(other, book), unlike)
            self.same(beyond(book, other), less)
            places.add((unlike is None, less is None, unlike == less))
        self.assertEqual(len(places), 4)


class TestEntries(Case):
    def full_book(self):
        deeds = [("a", None, "b"), ("s", "x", "t"), ("s", "y", "s"), ("s", "x", "t")]
        hearings = [("a", "x", "b"), ("s", "x", "t"), ("t", "y", "s")]
        return Book(["a", "b"], ["s", "t"], deeds, hearings, ["y", "x", "deed"])

    def test_the_first_and_the_last_and_those_between(self):
        book = self.full_book()
        for number in range(4):
            left = without(book, ("deed", number))
            self.same(left.deeds(), book.deeds()[:number] + book.deeds()[number + 1:])
            self.assertTrue(left == changed(book, deeds=left.deeds()))
        for number in range(3):
            left = without(book, ("hearing", number))
            self.same(left.hearings(), book.hearings()[:number] + book.hearings()[number + 1:])
            self.assertTrue(left == changed(book, hearings=left.hearings()))
        for sound, rest in (("y", ["x", "deed"]), ("x", ["y", "deed"]), ("deed", ["y", "x"])):
            left = without(book, ("lost", sound))
            self.same(left.lost(), rest)
            self.assertTrue(left == changed(book, lost=rest))
        self.assertTrue(book == self.full_book())

    def test_equal_deeds_are_two_entries(self):
        first, second, third = ("s", "x", "t"), ("s", "x", "s"), ("s", "x", "t")
        book = Book(["h"], ["s", "t"], [first, second, third], [], [])
        self.same(without(book, ("deed", 0)).deeds(), [second, third])
        self.same(without(book, ("deed", 2)).deeds(), [first, second])

    def test_the_only_one(self):
        book = Book(["h"], ["s"], [("s", "x", "s")], [("s", "x", "s")], ["x"])
        self.assertTrue(without(book, ("deed", 0)) == changed(book, deeds=[]))
        self.assertTrue(without(book, ("hearing", 0)) == changed(book, hearings=[]))
        self.assertTrue(without(book, ("lost", "x")) == changed(book, lost=[]))

    def test_what_is_no_entry(self):
        book = mend_book()
        for value in wrong_entries():
            self.raises(InvalidItem, value, without, book, value)
        empty = Book(["h"], ["s"], [], [], [])
        for value in (("deed", 0), ("hearing", 0), ("lost", "h"), ("lost", "s"), ("deed", -1)):
            self.raises(InvalidItem, value, without, empty, value)
        full = Book(["h"], ["s"], [("s", None, "s")] * 10, [], [])
        self.assertEqual(len(without(full, ("deed", 9)).deeds()), 9)
        wrong = ("deed", 10)
        self.raises(InvalidItem, wrong, without, full, wrong)

    def test_what_is_an_entry_of_some_book(self):
        chance = random.Random(SEED + 3)
        values = [("deed", number) for number in range(-1, 7)] + [("hearing", number) for number in range(-1, 9)]
        values += [("lost", sound) for sound in "wxyz"]
        for _ in range(40):
            book = book_by_chance(chance)
            for value in values:
                if value in entries_by_hand(book):
                    self.assertTrue(without(book, value) == without_by_hand(book, value))
                else:
                    self.raises(InvalidItem, value, without, book, value)


class TestSpare(Case):
    def test_without_entries(self):
        self.same(spare(Book(["h"], ["s"], [], [], [])), [])

    def test_none_can_go(self):
        self.same(spare(Book(["h"], ["s", "t"], [("s", None, "t")], [], [])), [])

    def test_the_order_is_that_of_the_kinds_then_of_numbers_and_sounds(self):
        hearings = [("t", sound, "t") for sound in "abcdefghijkl"]
        book = Book(["h"], ["s", "t"], [("s", "x", "t")] * 10, hearings, ["z", "b", "w", "a"])
        self.same(spare(book), [("deed", number) for number in range(10)]
                  + [("hearing", number) for number in range(12)] + [("lost", sound) for sound in "abwz"])

    def test_equal_deeds_twice(self):
        book = Book(["h"], ["s", "t"], [("s", "x", "t"), ("s", "x", "s"), ("s", "x", "t")], [], [])
        self.same(spare(book), [("deed", 0), ("deed", 1), ("deed", 2)])
        self.same(spare(without(book, ("deed", 0))), [("deed", 0)])

    def test_each_alone(self):
        # Either of two deeds can go, but not both.
        book = Book(["h"], ["s", "t"], [("s", None, "t"), ("s", "x", "t")], [], [])
        self.same(spare(book), [("deed", 0), ("deed", 1)])
        for entry in spare(book):
            self.same(spare(without(book, entry)), [])

    def test_hearings_and_lost_sounds_that_count(self):
        self.same(spare(two_house_book()), [])
        # Where x can be lost, whatever can be can be without the hearing of the listeners, too.
        self.same(spare(two_house_book(["x"])), [("hearing", 1)])

    def test_as_the_tables_without_them_tell(self):
        chance = random.Random(SEED + 4)
        seen = set()
        for _ in range(80):
            book = book_by_chance(chance)
            told = spare(book)
            asked = [entry for entry in entries_by_hand(book)
                     if table(without_by_hand(book, entry)) == table(book)]
            self.same(told, asked)
            for entry in entries_by_hand(book):
                self.assertIs(entry in told, first_unlike(book, without(book, entry)) is None)
                seen.add((entry[0], entry in told))
        self.assertEqual(seen, set(itertools.product(["deed", "hearing", "lost"], [True, False])))


class TestErrors(Case):
    def test_books(self):
        for value in any_values() + [["idle"], Book, ()]:
            for call in (table, spare):
                self.raises(InvalidBook, value, call, value)
            for call in (first_unlike, beyond):
                for other in (mend_book(), value, None):
                    self.raises(InvalidBook, value, call, value, other)
                self.raises(InvalidBook, value, call, mend_book(), value)
            for entry in (("deed", 0), None, ("deed", 9)):
                self.raises(InvalidBook, value, without, value, entry)

    def test_books_with_other_places(self):
        book = mend_book()
        for other in (
            Book(["idle"], ["lacks", "waits", "has"], [], [], []),
            Book(["mends", "idle"], ["lacks", "waits", "has"], [], [], []),
            Book(["idle", "mends"], ["lacks", "waits"], [], [], []),
            Book(["idle", "mends"], ["lacks", "has", "waits"], [], [], []),
            Book(["idle", "mend"], ["lacks", "waits", "has"], [], [], []),
        ):
            for call in (first_unlike, beyond):
                self.raises(InvalidBook, other, call, book, other)
                self.raises(InvalidBook, book, call, other, book)


class TestArguments(Case):
    def test_by_name(self):
        book, other = two_house_book(["x"]), two_house_book()
        self.same(table(book=book), table(book))
        self.same(first_unlike(other=other, book=book), ("b", [2, 0]))
        self.same(beyond(other=other, book=book), ("b", [2, 0]))
        self.same(spare(book=book), spare(book))
        self.assertTrue(without(entry=("lost", "x"), book=book) == other)

    def test_they_are_not_changed_and_what_is_returned_belongs_to_the_caller(self):
        book, other = two_house_book(["x"]), two_house_book()
        for call in (lambda: table(book), lambda: spare(book), lambda: list(first_unlike(book, other)),
                     lambda: list(beyond(book, other))):
            first, second = call(), call()
            self.same(first, second)
            self.made_of_plain_kinds(first)
            self.no_list_twice([first, second])
            kept = copy.deepcopy(second)
            first.append(None)
            for item in first:
                if isinstance(item, tuple) and isinstance(item[1], list):
                    item[1].append(None)
            self.same(call(), kept)
        self.assertTrue(book == two_house_book(["x"]))
        self.assertTrue(other == two_house_book())


if __name__ == "__main__":
    unittest.main()
