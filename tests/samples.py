"""Books and things that several tests ask about."""

LETTERS = "abcdefghijklmnopqrstuvwxyz"

# Every sign a text handed in may have, from the blank to ~ but the percent sign.
SIGNS = "".join(chr(code) for code in range(32, 127) if code != 37)

HUGE = 10 ** 59

LEAST_BOOK = (0, (), (), (0,), (0,), (0, 0, 0))

BOOK = (
    1,
    (("a", "b", -3), ("b", "a", 2), ("c", "d", 0), ("e", "e", 9)),
    (("a", "b", "a", "b", -2), ("a", "b", "b", "a", 0), ("c", "d", "a", "b", 4)),
    (4, 3, 2),
    (1, 2),
    (3, -1, 1),
)


def turned(price_of_even, price_of_odd, number):
    """Tell a price that differs from row to row."""
    return price_of_even if number % 2 == 0 else price_of_odd


# Each part at its bounds: the widest gap, forty rows twice, eight prices twice.
GREATEST_BOOK = (
    6,
    tuple(("az"[k // 20], LETTERS[k % 20 + 6], turned(-9, 9, k)) for k in range(40)),
    tuple(("z", "a", "az"[k // 20], LETTERS[k % 20], turned(9, -9, k)) for k in range(40)),
    (9, -9, 9, -9, 9, -9, 9, -9),
    (-9, 9, -9, 9, -9, 9, -9, 9),
    (9, -9, 2),
)


def with_part(things, place, part):
    """Tell the tuple with another thing at one place."""
    return things[:place] + (part,) + things[place + 1:]


# Of each kind that may be handed in where "of anything" is told; lists stand for tuples too.
NO_WHOLE_NUMBERS = (True, False, None, "", "0", "1", (), (0,), (1, 2), [], [0], [1, 2], ((((((1,),),),),),))

NO_TEXTS = (
    True, False, None, 0, 1, -1, HUGE, -HUGE, (), ("a",), ("a", "b"), [], ["a"], ["a", "b"],
    [[[[[["a"]]]]]], (((((("a",),),),),),), (None, True, [0, ("a",)]),
)

NO_SMALL_LETTERS = ("", "A", "Z", "0", " ", "`", "{", "~", "ab", "aa", "a ", " a", "abc") + NO_TEXTS

NO_TUPLES = (
    True, False, None, 0, 1, -1, HUGE, -HUGE, "", "a", "ab", "abcdef", "a" * 210, [], [0], ["a", "b", 1],
    [[[[[[0]]]]]],
)


def kinds_alike(one, other):
    """Tell whether two things are equal and of the same kinds through and through (1 is no True)."""
    if type(one) is not type(other):
        return False
    if isinstance(one, (tuple, list)):
        return len(one) == len(other) and all(kinds_alike(a, b) for a, b in zip(one, other))
    return one == other
