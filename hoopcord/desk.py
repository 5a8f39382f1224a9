"""The desk: rows of words, each answered with a text."""

from hoopcord.counting import how_many
from hoopcord.errors import NoRow, NoShape
from hoopcord.full import how_many_full, is_full_of
from hoopcord.least import least
from hoopcord.nearness import nearest
from hoopcord.numbering import number_of, shape_at
from hoopcord.others import other_full
from hoopcord.pricing import price
from hoopcord.shapes import is_shape
from hoopcord.shares import free_share, share
from hoopcord.spectra import by_price
from hoopcord.texts import read_shape, show_shape

FIGURES = "0123456789"
MOST_FIGURES = 14
NO_SIGNS = "-"


def show(cord, shape):
    """Tell the text of a shape as the desk shows it."""
    text = show_shape(len(cord), shape)
    return NO_SIGNS if text == "" else text


def show_fraction(fraction):
    """Tell a fraction as the desk shows it."""
    return f"{fraction[0]}/{fraction[1]}"


def say_many(book, cord, things):
    """Answer the row many."""
    return str(how_many(book, cord))


def say_shape(book, cord, things):
    """Answer the row shape N."""
    return show(cord, shape_at(book, cord, things[0]))


def say_number(book, cord, things):
    """Answer the row number SHAPE."""
    return str(number_of(book, cord, things[0]))


def say_price(book, cord, things):
    """Answer the row price SHAPE."""
    return str(price(book, cord, things[0]))


def say_least(book, cord, things):
    """Answer the row least."""
    lowest, shape = least(book, cord)
    return f"{lowest} {show(cord, shape)}"


def say_prices(book, cord, things):
    """Answer the row prices."""
    return ", ".join([f"{each}:{many}" for each, many in by_price(book, cord)])


def say_share(book, cord, things):
    """Answer the row share I J BASE."""
    return show_fraction(share(book, cord, things[0], things[1], things[2]))


def say_free(book, cord, things):
    """Answer the row free I BASE."""
    return show_fraction(free_share(book, cord, things[0], things[1]))


def say_nearest(book, cord, things):
    """Answer the row nearest BASE."""
    shape, mean = nearest(book, cord, things[0])
    return f"{show(cord, shape)} {show_fraction(mean)}"


def say_full(book, cord, things):
    """Answer the row full."""
    return str(how_many_full(cord))


def say_other(book, cord, things):
    """Answer the row other SHAPE."""
    other = other_full(cord, things[0])
    return "none" if other is None else show(cord, other)


KINDS = {
    "many": (),
    "shape": ("number",),
    "number": ("shape",),
    "price": ("shape",),
    "least": (),
    "prices": (),
    "share": ("number", "number", "number"),
    "free": ("number", "number"),
    "nearest": ("number",),
    "full": (),
    "other": ("full",),
}

DEEDS = {
    "many": say_many,
    "shape": say_shape,
    "number": say_number,
    "price": say_price,
    "least": say_least,
    "prices": say_prices,
    "share": say_share,
    "free": say_free,
    "nearest": say_nearest,
    "full": say_full,
    "other": say_other,
}


def is_number(word):
    """Tell whether a word is a number as rows have them."""
    figures = word[1:] if word.startswith("-") else word
    if not 1 <= len(figures) <= MOST_FIGURES or not all([sign in FIGURES for sign in figures]):
        return False
    return word == "0" or figures[0] != "0"


def is_word_of(kind, word):
    """Tell whether a word may stand for a thing of this kind."""
    if kind == "number":
        return is_number(word)
    # Any word may stand for a shape; a blank too many leaves what is no word.
    return word != ""


def is_as_listed(words):
    """Tell whether the words make a row that is listed."""
    if words[0] not in KINDS:
        return False
    kinds = KINDS[words[0]]
    if len(words) - 1 != len(kinds):
        return False
    return all([is_word_of(kind, word) for kind, word in zip(kinds, words[1:])])


def words_in(row):
    """Tell the words of a row that is listed."""
    if not isinstance(row, str):
        raise NoRow("a row is a text")
    words = row.split(" ")
    if not is_as_listed(words):
        raise NoRow("the desk has no such row")
    return words


def shape_read(book, cord, kind, word):
    """Tell the shape, full or not, that a word shows."""
    shape = read_shape(len(cord), "" if cord == "" and word == NO_SIGNS else word)
    fits = is_full_of(cord, shape) if kind == "full" else is_shape(book, cord, shape)
    if not fits:
        raise NoShape("these hoops are no shape of the cord")
    return shape


def thing_read(book, cord, kind, word):
    """Tell the number or the shape that a word shows."""
    return int(word) if kind == "number" else shape_read(book, cord, kind, word)


class Desk:
    """Where rows are told of a cord and a book."""

    def __init__(self, book, cord):
        self.book = book
        self.cord = cord

    def say(self, row):
        """Answer a row with a text."""
        words = words_in(row)
        things = [thing_read(self.book, self.cord, kind, word) for kind, word in zip(KINDS[words[0]], words[1:])]
        deed = DEEDS[words[0]]
        return deed(self.book, self.cord, things)
