"""Rings: what lies right within a hoop of a shape, or within none."""

from hoopcord.shapes import NO_PARTNER, row_of


def ring_of(many, shape, hoop):
    """Tell the hoops right within the hoop (of None: the outermost ones) and the spots that are free there."""
    row = row_of(many, shape)
    spot, stop = 0, many
    if hoop is not None:
        spot, stop = hoop[0] + 1, hoop[1]
    hoops = []
    free = []
    while spot < stop:
        if row[spot] == NO_PARTNER:
            free.append(spot)
        else:
            hoops.append((spot, row[spot]))
            # What lies within this hoop is of its own ring.
            spot = row[spot]
        spot += 1
    return (hoops, free)
