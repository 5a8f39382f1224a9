"""Cords: what is one, and which of its spots a book lets be hooped."""

from hoopcord.books import own_price
from hoopcord.kinds import is_small_letter

MOST_LETTERS = 20


def is_cord(thing):
    """Tell of anything whether it is a cord."""
    if not isinstance(thing, str) or len(thing) > MOST_LETTERS:
        return False
    return all([is_small_letter(sign) for sign in thing])


def may_hoop(book, cord, i, j):
    """Tell of any whole numbers whether they are spots that may be hooped."""
    # Python would count a number below 0 from the cord's end.
    if not 0 <= i < j < len(cord):
        return False
    if j - i - 1 < book[0]:
        return False
    # A hoop may cost 0, so None alone says that there is none.
    return own_price(book, cord[i], cord[j]) is not None


def all_pairs(book, cord):
    """Tell the pairs of spots that may be hooped, rising."""
    many = len(cord)
    return [(i, j) for i in range(many) for j in range(i + 1, many) if may_hoop(book, cord, i, j)]
