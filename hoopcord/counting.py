"""Counts: how many shapes a cord and a book have."""

from hoopcord.cords import may_hoop
from hoopcord.shapes import NO_PARTNER


def partner_counts(book, cord, counts, start, stop):
    """Tell each partner that the start may have, rising, and how many shapes of the spots up to stop - 1 have it.

    The counts are those of all spots that begin behind the start.
    """
    told = [(NO_PARTNER, counts[(start + 1, stop)])]
    for partner in range(start + 1, stop):
        if may_hoop(book, cord, start, partner):
            # No hoop crosses this one: what lies within it and what lies behind it are free of one another.
            told.append((partner, counts[(start + 1, partner)] * counts[(partner + 1, stop)]))
    return told


def counts_of(book, cord):
    """Tell for each (start, stop) how many shapes the spots from start to stop - 1 have."""
    last = len(cord)
    counts = {(last, last): 1}
    for start in reversed(range(last)):
        counts[(start, start)] = 1
        for stop in range(start + 1, last + 1):
            told = partner_counts(book, cord, counts, start, stop)
            counts[(start, stop)] = sum([many for partner, many in told])
    return counts


def how_many(book, cord):
    """Tell how many shapes the cord and book have."""
    return counts_of(book, cord)[(0, len(cord))]
