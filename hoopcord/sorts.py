"""Sorts of letters: two letters each, each the fellow of the other."""

LETTERS = "abcdefghijklmnopqrstuvwxyz"


def letters_of_sorts(many):
    """Tell the letters of the first so many sorts."""
    return LETTERS[:2 * many]


def fellow(letter):
    """Tell the fellow of a letter."""
    place = LETTERS.find(letter)
    return LETTERS[place + 1] if place % 2 == 0 else LETTERS[place - 1]
