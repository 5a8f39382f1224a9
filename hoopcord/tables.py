"""Tables: numbers that show that no shape is cheaper than a price.

A part is a tuple (kind, i, j): a hoop (i, j) with all within it; what lies inside of a fork in the spots from i to
j - 1, at least one hoop; or all in the spots from i on, j the cord's length. A way to make a part is a pair: what it
costs by itself, and the parts of which it is made.
"""

from hoopcord.books import own_price
from hoopcord.cords import may_hoop
from hoopcord.pricing import ring_price

HOOPED = "hooped"
INSIDE = "inside"
OUTER = "outer"


def hooped_parts(parts, start, stop):
    """Tell those of the parts that are hoops in the spots from start to stop - 1."""
    spots = [(HOOPED, k, m) for k in range(start, stop) for m in range(k + 1, stop)]
    return [part for part in spots if part in parts]


def split_parts(parts, start, stop):
    """Tell each two of the parts that lie inside and meet, and come to the spots from start to stop - 1."""
    pairs = [((INSIDE, start, k), (INSIDE, k, stop)) for k in range(start + 1, stop)]
    return [(one, other) for one, other in pairs if one in parts and other in parts]


def outer_ways(parts, i, last):
    """Tell the ways to make all from the spot i on."""
    if i == last:
        return [(0, ())]
    ways = [(0, ((OUTER, i + 1, last),))]
    for j in range(i + 1, last):
        if (HOOPED, i, j) in parts:
            ways.append((0, ((HOOPED, i, j), (OUTER, j + 1, last))))
    return ways


def hooped_ways(book, cord, parts, i, j):
    """Tell the ways to make a hoop with all within it."""
    base, each, each_free = book[5]
    own = own_price(book, cord[i], cord[j])
    ways = [(own + ring_price(book, cord, (i, j), [], j - i - 1), ())]
    for part in hooped_parts(parts, i + 1, j):
        kind, k, m = part
        free = (k - i - 1) + (j - m - 1)
        ways.append((own + ring_price(book, cord, (i, j), [(k, m)], free), (part,)))
    for pair in split_parts(parts, i + 1, j):
        ways.append((own + base, pair))
    return ways


def inside_ways(book, parts, i, j):
    """Tell the ways to make what lies inside of a fork."""
    base, each, each_free = book[5]
    ways = []
    for part in hooped_parts(parts, i, j):
        kind, k, m = part
        ways.append((each + each_free * (k - i + j - m - 1), (part,)))
    for pair in split_parts(parts, i, j):
        ways.append((0, pair))
    return ways


def ways_of(book, cord, parts, part):
    """Tell the ways to make a part of the parts there are."""
    kind, i, j = part
    if kind == OUTER:
        return outer_ways(parts, i, j)
    if kind == HOOPED:
        return hooped_ways(book, cord, parts, i, j)
    return inside_ways(book, parts, i, j)


def cost(numbers, way):
    """Tell what a way costs where each part costs its number."""
    return way[0] + sum([numbers[part] for part in way[1]])


def least_numbers(book, cord):
    """Tell for each part the least number that a way to make it costs."""
    last = len(cord)
    numbers = {}
    for i in reversed(range(last + 1)):
        # A part is made of parts that begin behind it, of hoops that begin with it, or of shorter ones inside.
        parts = [(HOOPED, i, j) for j in range(i + 1, last) if may_hoop(book, cord, i, j)]
        parts += [(INSIDE, i, j) for j in range(i + 1, last + 1)] + [(OUTER, i, last)]
        for part in parts:
            costs = [cost(numbers, way) for way in ways_of(book, cord, numbers, part)]
            # Where no hoop lies inside there is no way, and no such part.
            if costs:
                numbers[part] = min(costs)
    return numbers


def table(book, cord):
    """Tell a table that bears the cord and book, its number for the spots from 0 on being the least price."""
    numbers = least_numbers(book, cord)
    hooped = [(i, j, numbers[(kind, i, j)]) for kind, i, j in numbers if kind == HOOPED]
    inside = [(i, j, numbers[(kind, i, j)]) for kind, i, j in numbers if kind == INSIDE]
    outer = [(i, numbers[(kind, i, last)]) for kind, i, last in numbers if kind == OUTER]
    return (sorted(hooped), sorted(inside), sorted(outer))


def numbers_told(cord, told):
    """Tell for each part the number that a table tells of it."""
    hooped, inside, outer = told
    numbers = {(HOOPED, i, j): number for i, j, number in hooped}
    for i, j, number in inside:
        numbers[(INSIDE, i, j)] = number
    for i, number in outer:
        numbers[(OUTER, i, len(cord))] = number
    return numbers


def bears(book, cord, told):
    """Tell whether no number of the table is above what a way to make that part costs."""
    numbers = numbers_told(cord, told)
    for part in numbers:
        for way in ways_of(book, cord, numbers, part):
            if numbers[part] > cost(numbers, way):
                return False
    return True


def shows(book, cord, number, told):
    """Tell whether the table shows that no shape is cheaper than the number."""
    return bears(book, cord, told) and told[2][0][1] >= number
