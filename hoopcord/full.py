"""Full shapes: what is one, how many a cord has, and the one of a number in the order of their rows."""

from hoopcord.errors import NoNumber
from hoopcord.kinds import is_tuple_of, is_whole
from hoopcord.numbering import partner_at
from hoopcord.shapes import lie_apart
from hoopcord.sorts import fellow


def is_pair_of_spots(many, thing):
    """Tell of anything whether it is a pair (i, j) of spots below many, i < j."""
    if not is_tuple_of(thing, 2, 2):
        return False
    i, j = thing
    return is_whole(i) and is_whole(j) and 0 <= i < j < many


def is_full(many, thing):
    """Tell of anything whether it is a full shape of many spots."""
    if not isinstance(thing, tuple) or 2 * len(thing) != many:
        return False
    # No two share a spot, and there are half as many as spots: so each spot is in one.
    return all([is_pair_of_spots(many, hoop) for hoop in thing]) and lie_apart(thing)


def is_full_of(cord, thing):
    """Tell of anything whether it is a full shape of the cord."""
    return is_full(len(cord), thing) and all([cord[j] == fellow(cord[i]) for i, j in thing])


def fellow_counts(cord, counts, start, stop):
    """Tell each partner that the start may have, rising, and how many full shapes of the spots up to stop - 1 have it.

    The counts are those of all spots that begin behind the start.
    """
    told = []
    for partner in range(start + 1, stop):
        if cord[partner] == fellow(cord[start]):
            told.append((partner, counts[(start + 1, partner)] * counts[(partner + 1, stop)]))
    return told


def full_counts(cord):
    """Tell for each (start, stop) how many full shapes the spots from start to stop - 1 have."""
    last = len(cord)
    counts = {(last, last): 1}
    for start in reversed(range(last)):
        counts[(start, start)] = 1
        for stop in range(start + 1, last + 1):
            counts[(start, stop)] = sum([many for partner, many in fellow_counts(cord, counts, start, stop)])
    return counts


def how_many_full(cord):
    """Tell how many full shapes the cord has."""
    return full_counts(cord)[(0, len(cord))]


def full_hoops_at(cord, counts, start, stop, number):
    """Tell the hoops, rising, of the full shape of a number among those of the spots from start to stop - 1."""
    if start == stop:
        return []
    partner, left = partner_at(fellow_counts(cord, counts, start, stop), number)
    # As with all shapes, the spots behind the hoop run through all for each full shape within it.
    within, behind = divmod(left, counts[(partner + 1, stop)])
    inner = full_hoops_at(cord, counts, start + 1, partner, within)
    return [(start, partner)] + inner + full_hoops_at(cord, counts, partner + 1, stop, behind)


def full_at(cord, number):
    """Tell the full shape of the number."""
    counts = full_counts(cord)
    last = len(cord)
    if not 0 <= number < counts[(0, last)]:
        raise NoNumber("no full shape of the cord has this number")
    return tuple(full_hoops_at(cord, counts, 0, last, number))
