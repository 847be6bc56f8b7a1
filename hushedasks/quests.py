"""Quests: what is asked of the runs of a book, be it a goal, a row or a log."""


class Quest:
    """Which lots a run is to end in, and which sounds are to come on its way.

    The stage of a run is how many of these sounds have come, from 0 to `last`. `track` tells the stage behind
    a deed by (stage ahead of it, sound of the deed); a deed for which it tells none must not come. The run is
    to end at the stage `last`, with the house at one of `houses` and no less than `counts` at the stands.
    """

    def __init__(self, book, track, last, houses, counts):
        self.book = book
        self.track = track
        self.last = last
        self.end_houses = houses
        self.end_counts = counts


def said_in(book):
    """Return the list of what the deeds of a book can say: its sounds, and None for no sound."""
    return book.sounds() + [None]


def goal_quest(book, goal):
    """Return the quest for a lot that is at least a goal."""
    house, counts = goal
    houses = book.houses() if house is None else [house]
    return Quest(book, {(0, sound): 0 for sound in said_in(book)}, 0, houses, list(counts))


def sounds_quest(book, track, sounds):
    """Return the quest for the last stage of some sounds, in whatever lot."""
    return Quest(book, track, len(sounds), book.houses(), [0 for _ in book.stands()])


def row_quest(book, row):
    """Return the quest for a run that bears a row."""
    track = {(stage, sound): stage for stage in range(len(row)) for sound in said_in(book)}
    for stage, sound in enumerate(row):
        # The first deed with a sound that is due may always be taken: what comes behind it stays the same.
        track[(stage, sound)] = stage + 1
    return sounds_quest(book, track, row)


def log_quest(book, log):
    """Return the quest for a run that keeps a log."""
    track = {(stage, None): stage for stage in range(len(log))}
    for stage, sound in enumerate(log):
        track[(stage, sound)] = stage + 1
    return sounds_quest(book, track, log)
