"""Prices: what a ring adds to its hoop, what a hoop costs in a shape, and what a shape costs."""

from hoopcord.books import own_price
from hoopcord.rings import ring_of


def nest_price(book, x, y, u, v):
    """Tell the price of a hoop of the letters u and v right within one of x and y, 0 where the book has none."""
    for row in book[2]:
        if row[:4] == (x, y, u, v):
            return row[4]
    return 0


def end_price(book, free):
    """Tell the price of a ring without a hoop."""
    ends = book[3]
    return ends[min(free, len(ends) - 1)]


def step_price(book, cord, hoop, inner, free):
    """Tell the price of a ring of one hoop."""
    if free == 0:
        return nest_price(book, cord[hoop[0]], cord[hoop[1]], cord[inner[0]], cord[inner[1]])
    bends = book[4]
    return bends[min(free, len(bends)) - 1]


def fork_price(book, many, free):
    """Tell the price of a ring of many hoops, two or more."""
    base, each, each_free = book[5]
    return base + each * many + each_free * free


def ring_price(book, cord, hoop, inner, free):
    """Tell the price that a ring of the inner hoops and so many free spots adds to its hoop."""
    if len(inner) == 0:
        return end_price(book, free)
    if len(inner) == 1:
        return step_price(book, cord, hoop, inner[0], free)
    return fork_price(book, len(inner), free)


def hoop_price(book, cord, shape, hoop):
    """Tell the price of a hoop in a shape."""
    inner, free = ring_of(len(cord), shape, hoop)
    return own_price(book, cord[hoop[0]], cord[hoop[1]]) + ring_price(book, cord, hoop, inner, len(free))


def price(book, cord, shape):
    """Tell the price of a shape."""
    return sum([hoop_price(book, cord, shape, hoop) for hoop in shape])
