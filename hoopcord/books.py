"""Books of prices: what is one, and what a hoop costs by its letters."""

from hoopcord.kinds import is_small_letter, is_tuple_of, is_whole_within

MOST_GAP = 6
MOST_ROWS = 40
MOST_PRICES = 8
MOST_PRICE = 9
MOST_FREE = 2


def is_price(thing):
    """Tell whether the thing is a price."""
    return is_whole_within(thing, -MOST_PRICE, MOST_PRICE)


def is_lettered_price(thing, letters):
    """Tell whether the thing is a tuple of so many small letters and a price."""
    if not is_tuple_of(thing, letters + 1, letters + 1):
        return False
    return all([is_small_letter(x) for x in thing[:letters]]) and is_price(thing[letters])


def are_lettered_prices(thing, letters):
    """Tell whether the thing is a tuple of lettered prices, none with the letters of another one."""
    if not is_tuple_of(thing, 0, MOST_ROWS):
        return False
    seen = set()
    for row in thing:
        # What is no such row may hold a list, and that is no member of a set.
        if not is_lettered_price(row, letters) or row[:letters] in seen:
            return False
        seen.add(row[:letters])
    return True


def are_prices(thing):
    """Tell whether the thing is a tuple of prices as ends and bends are."""
    return is_tuple_of(thing, 1, MOST_PRICES) and all([is_price(price) for price in thing])


def is_fork(thing):
    """Tell whether the thing is a tuple (base, each, free) of prices."""
    if not is_tuple_of(thing, 3, 3):
        return False
    base, each, free = thing
    return is_price(base) and is_price(each) and is_whole_within(free, -MOST_FREE, MOST_FREE)


def is_book(thing):
    """Tell of anything whether it is a book."""
    if not is_tuple_of(thing, 6, 6):
        return False
    gap, hoops, nests, ends, bends, fork = thing
    if not is_whole_within(gap, 0, MOST_GAP):
        return False
    if not are_lettered_prices(hoops, 2) or not are_lettered_prices(nests, 4):
        return False
    return are_prices(ends) and are_prices(bends) and is_fork(fork)


def own_price(book, x, y):
    """Tell the price of the book's hoop of the letters x and y, in this order, or None."""
    for first, second, price in book[1]:
        if first == x and second == y:
            return price
    return None
