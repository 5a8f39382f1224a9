"""Other full shapes of a cord than a told one."""

from hoopcord.rings import ring_of
from hoopcord.shapes import row_of


def ways_out(many, shape, hoop):
    """Tell for each hoop at a ring the spot by which it leads out of the ring, and that by which it leads back."""
    hoops, free = ring_of(many, shape, hoop)
    if hoop is not None:
        # The hoop around the ring leads out by its second spot.
        hoops.append((hoop[1], hoop[0]))
    return hoops


def ways_alike(cord, ways):
    """Tell two ways that lead out by the same letter, or None."""
    for at, one in enumerate(ways):
        for other in ways[:at]:
            if cord[one[0]] == cord[other[0]]:
                return (one, other)
    return None


def with_backs_exchanged(many, shape, one, other):
    """Tell the shape in which two ways out lead back by one another's spots."""
    row = row_of(many, shape)
    for out, back in ((one[0], other[1]), (other[0], one[1])):
        row[out] = back
        row[back] = out
    return tuple([(i, j) for i, j in enumerate(row) if i < j])


def other_full(cord, shape):
    """Tell another full shape of the cord than this one, or None where there is none."""
    many = len(cord)
    for hoop in (None,) + shape:
        alike = ways_alike(cord, ways_out(many, shape, hoop))
        if alike is not None:
            return with_backs_exchanged(many, shape, alike[0], alike[1])
    # Take each letter as a step and its fellow as the step back: now no two hoops are one and the same step, so each
    # step out has but one step back.
    return None
