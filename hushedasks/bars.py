"""Bars: lists of lots that no deed leads into from without."""

from hushedasks.packing import Cover
from hushedasks.ways import Ways


def keep_least(cover, codes):
    """Keep those of some packed lots, fewest listeners first, that are at least no other; return their list.

    The others say nothing, and might be great.
    """
    kept = []
    for code in codes:
        if not cover.covers(code):
            cover.keep(code)
            kept.append(code)
    return kept


def leads_in(ways, cover, codes):
    """Return whether a deed leads to at least one of these packed lots from one that is not covered."""
    seen = {}
    for code in codes:
        as_many, one_more = ways.backwards(code)
        for before in as_many + one_more:
            if before not in seen:
                seen[before] = True
                if not cover.covers(before):
                    return True
    return False


def shuts_in(quest, lots):
    """Return whether each lot that ends a quest, or from which deeds lead to one, is at least one of the lots.

    It looks no further than one deed ahead of each of the lots.
    """
    most = max([sum(quest.end_counts)] + [sum(counts) for _, counts in lots])
    # One more, as the lot ahead of a deed can have a listener more.
    ways = Ways(quest, (most + 1).bit_length() + 1)
    cover = Cover(ways.packing, [])
    codes = keep_least(cover, [ways.packed(lot) for lot in sorted(lots, key=lambda lot: sum(lot[1]))])
    if not all([cover.covers(end) for end in ways.ends()]):
        return False
    return not leads_in(ways, cover, codes)
