"""The least price of all shapes, with a shape that has it."""

from hoopcord.tables import HOOPED, OUTER, cost, least_numbers, ways_of


def cheapest_parts(book, cord, numbers, part):
    """Tell the parts of a way to make the part at its number."""
    ways = ways_of(book, cord, numbers, part)
    return min([(cost(numbers, way), way[1]) for way in ways])[1]


def least(book, cord):
    """Tell the least price of all shapes, and a shape that has it."""
    numbers = least_numbers(book, cord)
    whole = (OUTER, 0, len(cord))
    hoops = []
    waiting = [whole]
    while waiting:
        part = waiting.pop()
        if part[0] == HOOPED:
            hoops.append(part[1:])
        waiting.extend(cheapest_parts(book, cord, numbers, part))
    return (numbers[whole], tuple(sorted(hoops)))
