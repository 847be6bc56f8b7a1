"""[15] and [16] against a model that moves each listener by itself."""
import itertools
import random
import unittest

from hushedasks.books import Book
from hushedasks.runs import is_run, led, next_events

SEED = 20261119


def some_book(chance):
    """A small book, chosen by chance (the same ones in each run of the tests)."""
    houses = ["ha", "hb", "hc"][:chance.randint(1, 3)]
    stands = ["sd", "sb", "sc", "sa"][:chance.randint(1, 4)]
    sounds = ["x", "y", "z"]

    def move(sound):
        places = chance.choice([houses, stands])
        return (chance.choice(places), sound, chance.choice(places))

    deeds = [move(chance.choice(sounds + [None])) for _ in range(chance.randint(0, 6))]
    hearings = {}
    for _ in range(chance.randint(0, 12)):
        place, sound, other = move(chance.choice(sounds))
        hearings[(place, sound)] = (place, sound, other)
    lost = chance.sample(sounds, chance.randint(0, 3))
    return Book(houses, stands, deeds, list(hearings.values()), lost)


def lot_of(book, people):
    """The lot in which the first of the people is the house, the others are listeners."""
    return (people[0], [people[1:].count(stand) for stand in book.stands()])


def people_of(book, lot):
    return [lot[0]] + [stand for stand, many in zip(book.stands(), lot[1]) for _ in range(many)]


def by_hand(book, lot):
    """Each event that can come next in a lot, with the lot behind it, listener by listener."""
    people = people_of(book, lot)
    ears = {hearing[:2]: hearing[2] for hearing in book.hearings()}
    found = {}

    def put(event, behind):
        assert found.setdefault(event, behind) == behind

    for number, (place, sound, other) in enumerate(book.deeds()):
        for who in range(len(people)):
            if people[who] != place:
                continue
            could = [k for k in range(len(people)) if k != who and (people[k], sound) in ears]
            least = 0 if sound in book.lost() else len(could)
            for size in range(least, len(could) + 1):
                for hear in itertools.combinations(could, size):
                    then = list(people)
                    then[who] = other
                    for k in hear:
                        then[k] = ears[(people[k], sound)]
                    house, counts = lot_of(book, [people[0]] + [people[k] for k in hear if k > 0])
                    heard = (int(0 in hear),) + tuple(counts)
                    put(("deed", number, heard if sound in book.lost() else None), lot_of(book, then))
    for who in range(1, len(people)):
        put(("fall", people[who]), lot_of(book, people[:who] + people[who + 1:]))
    return found


def small_lots(book, most):
    for house in book.houses():
        for counts in itertools.product(range(most + 1), repeat=len(book.stands())):
            if sum(counts) <= most:
                yield (house, list(counts))


class TestByHand(unittest.TestCase):
    def test_small_lots(self):
        chance = random.Random(SEED)
        seen = 0
        for _ in range(150):
            book = some_book(chance)
            for lot in small_lots(book, 3):
                asked = by_hand(book, lot)
                self.assertEqual(next_events(book, lot, []), sorted(asked))
                for event, behind in asked.items():
                    self.assertEqual(led(book, lot, [event]), behind)
                    seen += 1
        self.assertGreater(seen, 5000)

    def test_which_events_there_are(self):
        chance = random.Random(SEED + 1)
        for _ in range(30):
            book = some_book(chance)
            width = 1 + len(book.stands())
            heards = [None] + list(itertools.product(range(-1, 3), repeat=width))
            for lot in small_lots(book, 2):
                asked = by_hand(book, lot)
                for number in range(-1, len(book.deeds()) + 1):
                    for heard in chance.sample(heards, min(len(heards), 12)) + [None]:
                        event = ("deed", number, heard)
                        self.assertIs(is_run(book, lot, [event]), event in asked)
                for place in book.houses() + book.stands():
                    self.assertIs(is_run(book, lot, [("fall", place)]), ("fall", place) in asked)

    def test_long_runs(self):
        chance = random.Random(SEED + 2)
        for _ in range(20):
            book = some_book(chance)
            begin = (chance.choice(book.houses()), [6] + [0] * (len(book.stands()) - 1))
            run, lot = [], begin
            while len(run) < 200:
                asked = by_hand(book, lot)
                # Falls are rare, so that the run stays one of several listeners.
                going = [event for event in sorted(asked) if event[0] == "deed"]
                event = chance.choice(going if going and chance.random() < 0.98 else sorted(asked) or [None])
                if event is None:
                    break
                run.append(event)
                lot = asked[event]
            self.assertIs(is_run(book, begin, run), True)
            self.assertEqual(led(book, begin, run), lot)
            self.assertEqual(next_events(book, begin, run), sorted(by_hand(book, lot)))


if __name__ == "__main__":
    unittest.main()
