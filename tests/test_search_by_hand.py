"""[21] to [36] against searches forwards, over all small lots, with each listener moved by itself."""
import itertools
import random
import unittest

from hushedasks.lacks import alone, lack_run, lasting
from hushedasks.lots import bar, comes_to, is_bar, least_lots
from hushedasks.numbers import beginning, least_number, run_to
from hushedasks.rows import least_for_log, least_for_row, run_of_log, run_of_row
from hushedasks.runs import is_run, led
from test_runs_by_hand import SEED, by_hand, small_lots, some_book

MOST = 4


def key_of(lot):
    return (lot[0], tuple(lot[1]))


def lot_of(key):
    return (key[0], list(key[1]))


def at_least(key, goal):
    return goal[0] in (None, key[0]) and all(x >= y for x, y in zip(key[1], goal[1]))


def one_at(book, stand):
    return [int(other == stand) for other in book.stands()]


def graph_of(book):
    """For each lot of at most MOST listeners, the list of (event, lot behind it)."""
    return {
        key_of(lot): [(event, key_of(behind)) for event, behind in by_hand(book, lot).items()]
        for lot in small_lots(book, MOST)
    }


def events_to(graph, ends):
    """For each place of a graph from which some way leads to one of the ends, its fewest events."""
    ahead = {}
    for place, ways in graph.items():
        for _, behind in ways:
            ahead.setdefault(behind, []).append(place)
    found = {end: 0 for end in ends}
    wave = list(found)
    while wave:
        wave = [(place, found[behind] + 1) for behind in wave for place in ahead.get(behind, [])]
        new = []
        for place, many in wave:
            if place not in found:
                found[place] = many
                new.append(place)
        wave = new
    return found


def first_lots(book):
    return [key_of((book.houses()[0], [many] + [0] * (len(book.stands()) - 1))) for many in range(MOST + 1)]


class Model:
    """A book by chance, with all its small lots."""

    def __init__(self, chance):
        self.chance = chance
        self.book = some_book(chance)
        self.graph = graph_of(self.book)
        self.first = first_lots(self.book)

    def goal(self):
        counts = [0] * len(self.book.stands())
        for _ in range(self.chance.choice([0, 1, 1, 2, 2, 3])):
            counts[self.chance.randrange(len(counts))] += 1
        return (self.chance.choice([None] + self.book.houses()), counts)

    def number(self, found):
        """The least number of which the beginning is found, or None if none of at most MOST is."""
        return next((many for many, key in enumerate(self.first) if key in found), None)

    def is_bar(self, goal, lots):
        """[22] by its words, for lists of lots of fewer than MOST listeners each."""
        def up(key):
            return any(at_least(key, lot) for lot in lots)

        return (
            all(up(key) for key in self.graph if at_least(key, goal))
            and all(up(key) for key, ways in self.graph.items() for event, behind in ways
                    if event[0] == "deed" and up(behind))
            and not any(up(key) for key in self.first)
        )

    def changed(self, lots):
        """The lots with one out, one more, or others a little."""
        lots = [lot_of(key_of(lot)) for lot in lots]
        how = self.chance.randrange(4)
        if how == 0 and lots:
            lots.pop(self.chance.randrange(len(lots)))
        elif how == 1:
            lots.append((self.chance.choice(self.book.houses()), [self.chance.randint(0, 2) for _ in self.book.stands()]))
        elif how == 2:
            lots = [(house, [max(0, many - self.chance.randint(0, 1)) for many in counts]) for house, counts in lots]
        return lots


def sounds_graph(model, sounds, just):
    """The graph of (lot, how many of the sounds have come): in a row others may come between, in a log not."""
    said = [deed[1] for deed in model.book.deeds()]

    def stage_behind(stage, event):
        sound = None if event[0] == "fall" else said[event[1]]
        if stage < len(sounds) and sound == sounds[stage]:
            return stage + 1
        return None if just and sound is not None else stage

    return {
        (key, stage): [(event, (behind, stage_behind(stage, event))) for event, behind in ways
                       if stage_behind(stage, event) is not None]
        for key, ways in model.graph.items() for stage in range(len(sounds) + 1)
    }


class TestSearches(unittest.TestCase):
    def agrees(self, number, asked):
        """Check a number, or None, against the one of the model, which looks at no more than MOST listeners."""
        if asked is None:
            self.assertTrue(number is None or number > MOST)
        else:
            self.assertEqual(number, asked)

    def check_run(self, model, run, number, events):
        """Check that there is a run just where there is a number, and its number of events."""
        self.assertIs(run is None, number is None)
        if run is not None:
            self.assertIs(is_run(model.book, beginning(model.book, number), run), True)
            if number <= MOST:
                self.assertEqual(len(run), events[number])

    def test_least_lots_and_runs_to_goals(self):
        chance = random.Random(SEED + 10)
        numbers = []
        for _ in range(250):
            model = Model(chance)
            goal = model.goal()
            found = events_to(model.graph, [key for key in model.graph if at_least(key, goal)])
            least = [key for key in found
                     if not any(other != key and at_least(key, other) for other in found)]
            told = least_lots(model.book, goal)
            self.assertEqual([lot for lot in told if sum(lot[1]) <= MOST], sorted(lot_of(key) for key in least))
            for key in chance.sample(sorted(model.graph), min(8, len(model.graph))):
                run = comes_to(model.book, lot_of(key), goal)
                self.assertEqual(None if run is None else len(run), found.get(key))
                if run is not None:
                    self.assertIs(is_run(model.book, lot_of(key), run), True)
                    self.assertTrue(at_least(led(model.book, lot_of(key), run), goal))
            number = least_number(model.book, goal)
            self.agrees(number, model.number(found))
            run = run_to(model.book, goal)
            self.check_run(model, run, number, [found.get(key) for key in model.first])
            if run is not None:
                self.assertTrue(at_least(led(model.book, beginning(model.book, number), run), goal))
            numbers.append(number)
        self.assertLessEqual({None, 0, 1, 2, 3}, set(numbers))

    def test_bars(self):
        chance = random.Random(SEED + 11)
        seen = {True: 0, False: 0}
        for _ in range(200):
            model = Model(chance)
            goal = model.goal()
            told = bar(model.book, goal)
            self.assertIs(told is None, least_number(model.book, goal) is not None)
            if told is not None:
                self.assertIs(is_bar(model.book, goal, told), True)
            for _ in range(5):
                lots = model.changed(least_lots(model.book, goal))
                if all(sum(lot[1]) < MOST for lot in lots):
                    asked = model.is_bar(goal, lots)
                    self.assertIs(is_bar(model.book, goal, lots), asked)
                    seen[asked] += 1
        self.assertGreater(min(seen.values()), 50)

    def test_rows_and_logs(self):
        chance = random.Random(SEED + 12)
        numbers = []
        for _ in range(150):
            model = Model(chance)
            for just, least, run_of in ((False, least_for_row, run_of_row), (True, least_for_log, run_of_log)):
                sounds = [chance.choice("xyz") for _ in range(chance.randint(0 if just else 1, 3))]
                graph = sounds_graph(model, sounds, just)
                found = events_to(graph, [place for place in graph if place[1] == len(sounds)])
                number = least(model.book, sounds)
                self.agrees(number, model.number({key for key, stage in found if stage == 0}))
                run = run_of(model.book, sounds)
                self.check_run(model, run, number, [found.get((key, 0)) for key in model.first])
                if run is not None:
                    said = [model.book.deeds()[event[1]][1] for event in run if event[0] == "deed"]
                    said = [sound for sound in said if sound is not None]
                    left = iter(said)
                    self.assertTrue(said == sounds if just else all(sound in left for sound in sounds))
                numbers.append(number)
        self.assertLessEqual({None, 0, 1, 2}, set(numbers))

    def test_lacks(self):
        chance = random.Random(SEED + 13)
        lacks = 0
        for _ in range(80):
            model = Model(chance)
            book = model.book
            places = list(itertools.product(book.houses(), book.stands()))
            told, numbers = {}, {}
            for house, stand in places:
                just = (house, tuple(one_at(book, stand)))
                ends = {other: [key for key in model.graph if at_least(key, (None, one_at(book, other)))]
                        for other in book.stands()}
                told[(house, stand)] = alone(book, house, stand)
                self.assertEqual(told[(house, stand)], [
                    other for other in sorted(book.stands()) if just in events_to(model.graph, ends[other])
                ])
                numbers[(house, stand)] = least_number(book, (house, one_at(book, stand)))
                found = events_to(model.graph, [just])
                run = lack_run(book, house, stand)
                self.check_run(model, run, numbers[(house, stand)], [found.get(key) for key in model.first])
                if run is not None:
                    begin = beginning(book, numbers[(house, stand)])
                    self.assertEqual(key_of(led(book, begin, run)), just)
            well = chance.sample(book.stands(), chance.randint(0, len(book.stands())))
            asked = [(house, stand, numbers[(house, stand)]) for house, stand in sorted(places)
                     if numbers[(house, stand)] is not None and not set(told[(house, stand)]) & set(well)]
            self.assertEqual(lasting(book, well), asked)
            lacks += len(asked)
        self.assertGreater(lacks, 50)


if __name__ == "__main__":
    unittest.main()
