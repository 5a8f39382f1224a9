"""Shapes: what is one, and the row of its partners."""

from hoopcord.cords import may_hoop
from hoopcord.kinds import is_tuple_of, is_whole

NO_PARTNER = -1


def is_hoop(book, cord, thing):
    """Tell of anything whether it is a pair of spots that may be hooped."""
    if not is_tuple_of(thing, 2, 2):
        return False
    i, j = thing
    return is_whole(i) and is_whole(j) and may_hoop(book, cord, i, j)


def follows(hoop, other):
    """Tell whether the hoop begins behind the other one's first spot, and lies behind it all or within it."""
    # Two hoops that share a spot fail here too: it can lie neither behind itself nor within itself.
    return other[0] < hoop[0] and (other[1] < hoop[0] or hoop[1] < other[1])


def lie_apart(hoops):
    """Tell whether the hoops rise, and no two share a spot or cross."""
    for at, hoop in enumerate(hoops):
        if not all([follows(hoop, other) for other in hoops[:at]]):
            return False
    return True


def is_shape(book, cord, thing):
    """Tell of anything whether it is a shape of the cord and book."""
    if not isinstance(thing, tuple):
        return False
    return all([is_hoop(book, cord, hoop) for hoop in thing]) and lie_apart(thing)


def row_of(many, shape):
    """Tell for each of many spots the number of its partner, or -1 where it is in no hoop."""
    row = [NO_PARTNER] * many
    for i, j in shape:
        row[i] = j
        row[j] = i
    return row
