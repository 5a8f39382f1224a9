"""Prices counted: how many shapes have each price."""

from hoopcord.counting import how_many
from hoopcord.weighing import lift_of, weights_of


def point_of(book, cord):
    """Tell a point by whose powers no price's count of shapes runs into another one's."""
    return how_many(book, cord) + 1


def counts_within(book, cord, weight):
    """Tell how many of the shapes that weigh so much together have each price, rising."""
    point = point_of(book, cord)
    # The exponent of nought is that of the price that takes up all that the spots bring.
    price = lift_of(book) * len(cord)
    falling = []
    while weight > 0:
        weight, many = divmod(weight, point)
        if many > 0:
            falling.append((price, many))
        price -= 1
    return falling[::-1]


def by_price(book, cord):
    """Tell how many shapes have each price, rising."""
    total, hooped = weights_of(book, cord, point_of(book, cord))
    return counts_within(book, cord, total)


def hooped_by_price(book, cord, i, j):
    """Tell how many shapes that have the hoop (i, j) have each price, rising."""
    total, hooped = weights_of(book, cord, point_of(book, cord))
    return counts_within(book, cord, hooped.get((i, j), 0))


def up_to(book, cord, number):
    """Tell how many shapes have no greater price than the number."""
    return sum([many for price, many in by_price(book, cord) if price <= number])
