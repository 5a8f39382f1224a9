"""Prices and tables reckoned as the document tells them, and many books to reckon with."""

import collections
import fractions
import random

from listing import all_shapes, hoopable, ring_by_hand


def ring_price_by_hand(book, cord, hoop, inner, free):
    """Tell what a ring adds."""
    gap, hoops, nests, ends, bends, (base, each, each_free) = book
    if not inner:
        return (ends + (ends[-1],) * 40)[free]
    if len(inner) >= 2:
        return base + each * len(inner) + each_free * free
    if free:
        return (bends + (bends[-1],) * 40)[free - 1]
    prices = {row[:-1]: row[-1] for row in nests}
    return prices.get((cord[hoop[0]], cord[hoop[1]], cord[inner[0][0]], cord[inner[0][1]]), 0)


def own_by_hand(book, cord, i, j):
    """Tell the own price of a hoop."""
    return {(x, y): price for x, y, price in book[1]}[cord[i], cord[j]]


def hoop_price_by_hand(book, cord, shape, hoop):
    """Tell the price of a hoop in a shape."""
    inner, free = ring_by_hand(len(cord), shape, hoop)
    return own_by_hand(book, cord, *hoop) + ring_price_by_hand(book, cord, hoop, inner, len(free))


def price_by_hand(book, cord, shape):
    """Tell the price of a shape."""
    return sum(hoop_price_by_hand(book, cord, shape, hoop) for hoop in shape)


def least_by_hand(book, cord):
    """Tell the least price of all shapes."""
    return min(price_by_hand(book, cord, shape) for shape in all_shapes(book, cord))


def prices_by_hand(book, cord):
    """Tell every shape with its price, in the order of their rows."""
    return [(shape, price_by_hand(book, cord, shape)) for shape in all_shapes(book, cord)]


def counted(prices):
    """Tell how many times each price is there, rising."""
    return sorted(collections.Counter(prices).items())


def weights_by_hand(book, cord, base):
    """Tell every shape with its weight by a base."""
    priced = prices_by_hand(book, cord)
    top = max(price for shape, price in priced)
    return [(shape, base ** (top - price)) for shape, price in priced]


def part_by_hand(weighed, picked):
    """Tell the fraction of the weights of picked shapes by all weights."""
    part = fractions.Fraction(
        sum(weight for shape, weight in weighed if picked(shape)), sum(weight for shape, weight in weighed),
    )
    return (part.numerator, part.denominator)


def mean_by_hand(weighed, shape):
    """Tell how far a shape is from all of those weighed in the mean."""
    apart = sum(weight * len(set(shape).symmetric_difference(other)) for other, weight in weighed)
    return fractions.Fraction(apart, sum(weight for other, weight in weighed))


def form_by_hand(book, cord):
    """Tell the pairs of a table's three lists."""
    pairs = hoopable(book, cord)
    many = len(cord)
    inside = [
        (i, j) for i in range(many + 1) for j in range(i + 1, many + 1)
        if any(i <= k and m <= j - 1 for k, m in pairs)
    ]
    return pairs, inside, list(range(many + 1))


def outer_rows(cord, H, F):
    """Tell the rows of (a): a kind, a number, and what it is at most."""
    yield "a length", F[len(cord)], 0
    for i in range(len(cord)):
        yield "a next", F[i], F[i + 1]
        for k, m in H:
            if k == i:
                yield "a hoop", F[i], H[k, m] + F[m + 1]


def hooped_rows(book, cord, H, V):
    """Tell the rows of (b)."""
    for i, j in H:
        own = own_by_hand(book, cord, i, j)
        yield "b end", H[i, j], own + ring_price_by_hand(book, cord, (i, j), [], j - i - 1)
        for k, m in H:
            if i < k and m < j:
                free = (j - i - 1) - (m - k + 1)
                ring = ring_price_by_hand(book, cord, (i, j), [(k, m)], free)
                yield "b bend" if free else "b nest", H[i, j], own + H[k, m] + ring
        for k in range(len(cord) + 1):
            if (i + 1, k) in V and (k, j) in V:
                yield "b fork", H[i, j], own + book[5][0] + V[i + 1, k] + V[k, j]


def inside_rows(book, cord, H, V):
    """Tell the rows of (c)."""
    base, each, free = book[5]
    for i, j in V:
        for k, m in H:
            if i <= k and m < j:
                yield "c hoop", V[i, j], each + free * (k - i + j - m - 1) + H[k, m]
        for k in range(len(cord) + 1):
            if (i, k) in V and (k, j) in V:
                yield "c split", V[i, j], V[i, k] + V[k, j]


KINDS = ["a hoop", "a length", "a next", "b bend", "b end", "b fork", "b nest", "c hoop", "c split"]


def broken_rows(book, cord, told):
    """Tell the rows that don't hold: their kinds, and by how much each is broken."""
    H = {(i, j): number for i, j, number in told[0]}
    V = {(i, j): number for i, j, number in told[1]}
    F = dict(told[2])
    rows = list(outer_rows(cord, H, F)) + list(hooped_rows(book, cord, H, V)) + list(inside_rows(book, cord, H, V))
    return [(kind, number - most) for kind, number, most in rows if number > most]


def with_more(told, part, place, more):
    """Tell the table with more at one number."""
    lists = [list(rows) for rows in told]
    row = lists[part][place]
    lists[part][place] = row[:-1] + (row[-1] + more,)
    return tuple(lists)


def some_books(many, seed):
    """Tell many books of three letters, the same each time."""
    chance = random.Random(seed)

    def price():
        return chance.randint(-9, 9)

    def rows(letters, odds):
        words = [()]
        for place in range(letters):
            words = [word + (letter,) for word in words for letter in "abc"]
        words = [word for word in words if chance.random() < odds]
        return tuple(word + (price(),) for word in words[:40])

    def prices():
        return tuple(price() for place in range(chance.randint(1, 5)))

    return [
        (chance.randint(0, 2), rows(2, 0.6), rows(4, 0.4), prices(), prices(), (price(), price(), chance.randint(-2, 2)))
        for book in range(many)
    ]


def some_cords(many, longest, seed):
    """Tell many cords of three letters, the same each time."""
    chance = random.Random(seed)
    return ["".join(chance.choice("abc") for spot in range(chance.randint(0, longest))) for cord in range(many)]
