"""Shares: which part of all weights have the shapes with a hoop, and those in which a spot is free."""

from hoopcord.errors import NoBase, NoSpot
from hoopcord.fractions import reduced
from hoopcord.kinds import is_whole_within
from hoopcord.weighing import weights_of

MOST_BASE = 9


def weights_by(book, cord, base):
    """Tell the weights by a base: of all shapes together, and for each pair of those that have it."""
    if not is_whole_within(base, 1, MOST_BASE):
        raise NoBase("a base is a whole number from 1 to 9")
    return weights_of(book, cord, base)


def ask_spot(cord, i):
    """Refuse what is no spot of the cord."""
    if not 0 <= i < len(cord):
        raise NoSpot("the cord has no such spot")


def share(book, cord, i, j, base):
    """Tell the share of the hoop (i, j)."""
    total, hooped = weights_by(book, cord, base)
    ask_spot(cord, i)
    ask_spot(cord, j)
    if i >= j:
        raise NoSpot("the first spot is not below the second one")
    return reduced(hooped.get((i, j), 0), total)


def free_share(book, cord, i, base):
    """Tell the share of the shapes in which the spot is in no hoop."""
    total, hooped = weights_by(book, cord, base)
    ask_spot(cord, i)
    # No shape has two hoops that end at one spot, so none is taken away twice.
    return reduced(total - sum([hooped[hoop] for hoop in hooped if i in hoop]), total)


def all_shares(book, cord, base):
    """Tell (i, j, share) for all pairs whose share is above nought, rising."""
    total, hooped = weights_by(book, cord, base)
    # A pair that may be hooped is in the shape of that hoop alone, at least.
    return [(i, j, reduced(hooped[(i, j)], total)) for i, j in hooped]


def are_shares(book, cord, base, told):
    """Tell whether the list is that of all shares."""
    return told == all_shares(book, cord, base)
