"""What kind of thing something is, asked of anything."""


def is_whole(thing):
    """Tell whether the thing is a whole number."""
    # To Python a truth is a number too; to the program it is none.
    return isinstance(thing, int) and not isinstance(thing, bool)


def is_whole_within(thing, low, high):
    """Tell whether the thing is a whole number from low to high."""
    return is_whole(thing) and low <= thing <= high


def is_small_letter(thing):
    """Tell whether the thing is a text of one sign, a to z."""
    return isinstance(thing, str) and len(thing) == 1 and "a" <= thing <= "z"


def is_tuple_of(thing, low, high):
    """Tell whether the thing is a tuple of low to high things."""
    return isinstance(thing, tuple) and low <= len(thing) <= high
