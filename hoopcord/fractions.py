"""Fractions: pairs of whole numbers in lowest terms, the second one above nought."""


def common_divisor(one, other):
    """Tell the greatest divisor that two whole numbers, not both nought, have in common."""
    left, right = abs(one), abs(other)
    while right > 0:
        left, right = right, left % right
    return left


def reduced(top, bottom):
    """Tell the fraction of top by bottom."""
    divisor = common_divisor(top, bottom)
    if bottom < 0:
        divisor = -divisor
    return (top // divisor, bottom // divisor)


def plus(one, other):
    """Tell the sum of two fractions."""
    return reduced(one[0] * other[1] + other[0] * one[1], one[1] * other[1])


def less(one, other):
    """Tell the first fraction less the other one."""
    return reduced(one[0] * other[1] - other[0] * one[1], one[1] * other[1])


def times(one, other):
    """Tell the product of two fractions."""
    return reduced(one[0] * other[0], one[1] * other[1])


def below(one, other):
    """Tell whether the first fraction is below the other one."""
    return one[0] * other[1] < other[0] * one[1]
