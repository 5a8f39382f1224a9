"""Numbers: the shapes of a cord and book in the order of their rows."""

from hoopcord.counting import counts_of, partner_counts
from hoopcord.errors import NoNumber
from hoopcord.shapes import NO_PARTNER, row_of


def partner_at(told, number):
    """Tell of partners, each with how many shapes have it, that of a shape's number, and its number among those."""
    at = 0
    left = number
    while left >= told[at][1]:
        left -= told[at][1]
        at += 1
    return (told[at][0], left)


def hoops_at(book, cord, counts, start, stop, number):
    """Tell the hoops, rising, of the shape of a number among those of the spots from start to stop - 1."""
    if start == stop:
        return []
    partner, left = partner_at(partner_counts(book, cord, counts, start, stop), number)
    if partner == NO_PARTNER:
        return hoops_at(book, cord, counts, start + 1, stop, left)
    # The spots within the hoop stand ahead in the row, so those behind it run through all for each shape within.
    within, behind = divmod(left, counts[(partner + 1, stop)])
    inner = hoops_at(book, cord, counts, start + 1, partner, within)
    return [(start, partner)] + inner + hoops_at(book, cord, counts, partner + 1, stop, behind)


def shape_at(book, cord, number):
    """Tell the shape of the number."""
    counts = counts_of(book, cord)
    last = len(cord)
    if not 0 <= number < counts[(0, last)]:
        raise NoNumber("no shape of the cord and book has this number")
    return tuple(hoops_at(book, cord, counts, 0, last, number))


def number_within(book, cord, counts, start, stop, row):
    """Tell the number of a row's shape among those of the spots from start to stop - 1."""
    if start == stop:
        return 0
    if row[start] == NO_PARTNER:
        return number_within(book, cord, counts, start + 1, stop, row)
    told = partner_counts(book, cord, counts, start, stop)
    ahead = sum([many for partner, many in told if partner < row[start]])
    within = number_within(book, cord, counts, start + 1, row[start], row)
    behind = number_within(book, cord, counts, row[start] + 1, stop, row)
    return ahead + within * counts[(row[start] + 1, stop)] + behind


def number_of(book, cord, shape):
    """Tell the number of the shape."""
    last = len(cord)
    return number_within(book, cord, counts_of(book, cord), 0, last, row_of(last, shape))
