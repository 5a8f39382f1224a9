"""Texts: how a shape is written, and how it is read."""

from hoopcord.errors import NoText

FIRST = "("
SECOND = ")"
FREE = "."


def show_shape(many, shape):
    """Tell the text of a shape of many spots."""
    signs = [FREE] * many
    for i, j in shape:
        signs[i] = FIRST
        signs[j] = SECOND
    return "".join(signs)


def read_shape(many, text):
    """Tell the pairs, rising, that the brackets of a text of many signs make."""
    if len(text) != many:
        raise NoText("the text hasn't as many signs as there are letters")
    unshut = []
    pairs = []
    for spot, sign in enumerate(text):
        if sign == FIRST:
            unshut.append(spot)
        elif sign == SECOND:
            if not unshut:
                raise NoText("a bracket is shut that was not opened")
            pairs.append((unshut.pop(), spot))
        elif sign != FREE:
            raise NoText("there is a sign that is no bracket and no dot")
    if unshut:
        raise NoText("a bracket is not shut")
    return tuple(sorted(pairs))
