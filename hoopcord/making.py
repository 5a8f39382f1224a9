"""Cords made for a full shape: those that have no other one."""

from hoopcord.full import how_many_full, is_full_of
from hoopcord.rings import ring_of
from hoopcord.sorts import fellow, letters_of_sorts


def breadth(many, shape, hoop):
    """Tell how many hoops are in the ring of a hoop, and one more for the hoop itself; of None: the outermost ring."""
    hoops, free = ring_of(many, shape, hoop)
    return len(hoops) if hoop is None else len(hoops) + 1


def letter_ring(letters, choices, hoops):
    """Put a letter at the first spot of each of the hoops, each another one of the choices, and its fellow behind."""
    for (i, j), letter in zip(hoops, choices):
        letters[i] = letter
        letters[j] = fellow(letter)


def cord_for(many, shape, c):
    """Tell a cord of the first c sorts that has the full shape alone; no ring is wide."""
    letters = [""] * many
    # No two hoops lead out of a ring by the same letter: one in it by its first one, that around it by its second.
    # So no two hoops can exchange their partners.
    for hoop in (None,) + shape:
        hoops, free = ring_of(many, shape, hoop)
        taken = "" if hoop is None else letters[hoop[1]]
        letter_ring(letters, [letter for letter in letters_of_sorts(c) if letter != taken], hoops)
    return "".join(letters)


def made_for(many, shape, c):
    """Tell a cord of the first c sorts that has the full shape alone, or a hoop whose ring is too wide for one."""
    for hoop in (None,) + shape:
        if breadth(many, shape, hoop) > 2 * c:
            return ("wide", hoop)
    return ("cord", cord_for(many, shape, c))


def alone(cord, shape):
    """Tell whether the full shape is the cord's only one."""
    return is_full_of(cord, shape) and how_many_full(cord) == 1
