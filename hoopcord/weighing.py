"""Weights: what all shapes weigh together, and those that have a hoop, by powers of a whole number, the point.

A shape of the price p weighs point ** (lift * many - p), many being how many letters the cord has. So each spot
brings the lift to the exponent, less what is paid there: a hoop's own price at its first spot, its ring's price at
its second one.
"""

from hoopcord.books import own_price
from hoopcord.cords import all_pairs
from hoopcord.pricing import fork_price, ring_price


def most_price(book):
    """Tell how far the book's prices go from nought, either way."""
    gap, hoops, nests, ends, bends, fork = book
    prices = [row[2] for row in hoops] + [row[4] for row in nests] + list(ends + bends + fork)
    return max([abs(price) for price in prices])


def lift_of(book):
    """Tell what each spot brings to the exponent."""
    # No more than two prices are paid at one spot, so no exponent falls below nought.
    return 2 * most_price(book)


def powers_of(point, many):
    """Tell so many powers of the point, from that of 0 on."""
    powers = [1]
    while len(powers) < many:
        powers.append(powers[-1] * point)
    return powers


class Scale:
    """What the prices of a cord and book weigh by a point."""

    def __init__(self, book, cord, point):
        self.book = book
        self.cord = cord
        self.own = {(i, j): own_price(book, cord[i], cord[j]) for i, j in all_pairs(book, cord)}
        self.lift = lift_of(book)
        # A spot saves no more than the lift either.
        self.powers = powers_of(point, 2 * self.lift * len(cord) + 1)

    def weigh(self, spots, paid):
        """Tell what so many spots weigh at which so much is paid."""
        return self.powers[self.lift * spots - paid]


def mend(scale, hoop, inner, free):
    """Tell how much more a ring weighs by its price than by that of a fork of the same hoops and free spots."""
    right = ring_price(scale.book, scale.cord, hoop, inner, free)
    wrong = fork_price(scale.book, len(inner), free)
    return scale.weigh(free + 1, right) - scale.weigh(free + 1, wrong)


def mend_of_none(scale, hoop):
    """Tell the mend of a hoop's ring without hoops."""
    return mend(scale, hoop, [], hoop[1] - hoop[0] - 1)


def mend_of_one(scale, hoop, inner):
    """Tell the mend of a hoop's ring of one inner hoop."""
    return mend(scale, hoop, [inner], (inner[0] - hoop[0] - 1) + (hoop[1] - inner[1] - 1))


def hoops_within(hoops, outer):
    """Tell those of the hoops that lie within the outer one."""
    return [hoop for hoop in hoops if outer[0] < hoop[0] and hoop[1] < outer[1]]


def hoops_around(hoops, inner):
    """Tell those of the hoops that lie around the inner one."""
    return [hoop for hoop in hoops if hoop[0] < inner[0] and inner[1] < hoop[1]]


def ring_weight(scale, rings, forks, hoop):
    """Tell what all rings of a hoop weigh together, with all that lies within."""
    base, each, each_free = scale.book[5]
    # All rings are weighed as forks at first, as if these had any number of hoops.
    told = scale.weigh(1, base) * forks[(hoop[0] + 1, hoop[1])] + mend_of_none(scale, hoop)
    for inner in hoops_within(rings, hoop):
        told += mend_of_one(scale, hoop, inner) * scale.weigh(1, scale.own[inner]) * rings[inner]
    return told


def lay_row(scale, rings, laid, start, each, each_free):
    """Add to what is laid, for each stop, what all weigh together that may lie in the spots from start to stop - 1.

    For each hoop that lies in no other one there, and for each spot that is free there, so much more is paid.
    """
    last = len(scale.cord)
    hooped = []
    for j in range(start + 1, last):
        if (start, j) in rings:
            hooped.append((j, scale.weigh(1, scale.own[(start, j)] + each) * rings[(start, j)]))
    laid[(start, start)] = 1
    for stop in range(start + 1, last + 1):
        behind = [weight * laid[(j + 1, stop)] for j, weight in hooped if j < stop]
        laid[(start, stop)] = scale.weigh(1, each_free) * laid[(start + 1, stop)] + sum(behind)


def inner_weights(scale):
    """Tell for each hoop what its rings weigh, and for each (start, stop) what may lie there in a fork."""
    base, each, each_free = scale.book[5]
    last = len(scale.cord)
    rings = {}
    forks = {}
    for start in reversed(range(last + 1)):
        # A ring hangs on what begins behind the hoop's first spot, and what is laid from there on hangs on the ring.
        for j in range(start + 1, last):
            if (start, j) in scale.own:
                rings[(start, j)] = ring_weight(scale, rings, forks, (start, j))
        lay_row(scale, rings, forks, start, each, each_free)
    return (rings, forks)


def outer_weights(scale, rings):
    """Tell for each (start, stop) what may lie there in the outermost ring."""
    outer = {}
    for start in reversed(range(len(scale.cord) + 1)):
        lay_row(scale, rings, outer, start, 0, 0)
    return outer


def around_weights(scale, forks, outer):
    """Tell for each hoop, rising, what may lie around its ring, its own price too."""
    base, each, each_free = scale.book[5]
    last = len(scale.cord)
    around = {}
    for inner in scale.own:
        k, m = inner
        told = outer[(0, k)] * outer[(m + 1, last)]
        # They rise, so each hoop that may lie around this one is there already.
        for hoop in hoops_around(around, inner):
            beside = forks[(hoop[0] + 1, k)] * forks[(m + 1, hoop[1])]
            told += around[hoop] * (scale.weigh(1, base + each) * beside + mend_of_one(scale, hoop, inner))
        around[inner] = scale.weigh(1, scale.own[inner]) * told
    return around


def weights_of(book, cord, point):
    """Tell what all shapes weigh together, and for each pair that may be hooped, rising, those that have it."""
    scale = Scale(book, cord, point)
    rings, forks = inner_weights(scale)
    outer = outer_weights(scale, rings)
    around = around_weights(scale, forks, outer)
    return (outer[(0, len(cord))], {hoop: around[hoop] * rings[hoop] for hoop in around})
