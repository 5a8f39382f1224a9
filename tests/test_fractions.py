"""Fractions: in lowest terms, added, taken away, multiplied and compared [2]."""

import itertools
import math
import time
import unittest
from fractions import Fraction

from asking import AskCase
from hoopcord.fractions import below, less, plus, reduced, times
from samples import HUGE

NUMBERS = (-12, -9, -6, -4, -3, -2, -1, 0, 1, 2, 3, 4, 6, 8, 9, 12, 35)
FRACTIONS = sorted({(Fraction(n, d).numerator, Fraction(n, d).denominator) for n in NUMBERS for d in (1, 2, 3, 6, 10)})

# Two thousand figures, and numbers beside them.
VAST = 10 ** 1999
MERSENNE = 2 ** 6643 - 1


def as_pair(number):
    """Tell a pair of Python's own fraction."""
    return (number.numerator, number.denominator)


class Reduced(AskCase):
    def assert_lowest(self, told):
        self.assertIs(type(told), tuple)
        self.assertEqual([type(number) for number in told], [int, int])
        self.assertGreater(told[1], 0)
        self.assertEqual(math.gcd(*told), 1)

    def test_by_hand(self):
        for top, bottom, told in (
            (1, 2, (1, 2)), (2, 4, (1, 2)), (6, 4, (3, 2)), (4, 2, (2, 1)), (7, 7, (1, 1)), (7, 1, (7, 1)),
            (-1, 2, (-1, 2)), (1, -2, (-1, 2)), (-1, -2, (1, 2)), (-6, 4, (-3, 2)), (6, -4, (-3, 2)), (-6, -4, (3, 2)),
            (0, 1, (0, 1)), (0, 7, (0, 1)), (0, -7, (0, 1)), (0, HUGE, (0, 1)), (0, -HUGE, (0, 1)), (-5, 5, (-1, 1)),
        ):
            self.assert_told(told, reduced, top, bottom)

    def test_all_of_small_numbers(self):
        for top, bottom in itertools.product(range(-20, 21), repeat=2):
            if bottom:
                self.assert_lowest(reduced(top, bottom))
                self.assert_told(as_pair(Fraction(top, bottom)), reduced, top, bottom)

    def test_sixty_figures(self):
        for top, bottom in itertools.permutations((HUGE, 10 * HUGE - 1, 6 * HUGE, -HUGE, 3, -2, HUGE + 1), 2):
            self.assert_lowest(reduced(top, bottom))
            self.assert_told(as_pair(Fraction(top, bottom)), reduced, top, bottom)

    def test_two_thousand_figures_are_told_soon(self):
        begun = time.monotonic()
        self.assertEqual(len(str(VAST)), 2000)
        self.assertEqual(len(str(MERSENNE)), 2000)
        fibonacci = [1, 1]
        while fibonacci[-1] < VAST:
            fibonacci.append(fibonacci[-1] + fibonacci[-2])
        for top, bottom in ((VAST, MERSENNE), (-VAST, 3 * VAST), (VAST + 1, -7), (fibonacci[-2], fibonacci[-3]),
                            (3 * (VAST // 9), VAST // 9 * 5), (0, MERSENNE)):
            self.assert_told(as_pair(Fraction(top, bottom)), reduced, top, bottom)
        self.assertLess(time.monotonic() - begun, 20)


class Reckoning(AskCase):
    def test_by_hand(self):
        self.assert_told((5, 6), plus, (1, 2), (1, 3))
        self.assert_told((1, 1), plus, (1, 2), (1, 2))
        self.assert_told((0, 1), plus, (1, 2), (-1, 2))
        self.assert_told((0, 1), plus, (0, 1), (0, 1))
        self.assert_told((1, 6), less, (1, 2), (1, 3))
        self.assert_told((-1, 6), less, (1, 3), (1, 2))
        self.assert_told((0, 1), less, (5, 7), (5, 7))
        self.assert_told((-5, 7), less, (0, 1), (5, 7))
        self.assert_told((1, 2), times, (2, 3), (3, 4))
        self.assert_told((0, 1), times, (0, 1), (-3, 4))
        self.assert_told((3, 8), times, (-1, 2), (-3, 4))
        self.assert_told((-3, 8), times, (-1, 2), (3, 4))

    def test_all_of_small_fractions(self):
        for one, other in itertools.product(FRACTIONS, repeat=2):
            left, right = Fraction(*one), Fraction(*other)
            self.assert_told(as_pair(left + right), plus, one, other)
            self.assert_told(as_pair(left - right), less, one, other)
            self.assert_told(as_pair(left * right), times, one, other)
            self.assert_told(left < right, below, one, other)

    def test_below(self):
        for one, other, told in (
            ((1, 3), (1, 2), True), ((1, 2), (1, 3), False), ((1, 2), (1, 2), False), ((0, 1), (0, 1), False),
            ((-1, 2), (-1, 3), True), ((-1, 3), (-1, 2), False), ((-1, 2), (0, 1), True), ((0, 1), (-1, 2), False),
            ((7, 1), (15, 2), True), ((HUGE, HUGE + 1), (1, 1), True), ((1, 1), (HUGE, HUGE + 1), False),
        ):
            self.assert_told(told, below, one, other)

    def test_great_fractions_are_told_soon(self):
        begun = time.monotonic()
        fractions = [(VAST, MERSENNE), (-VAST, 3), (1, VAST), (MERSENNE, MERSENNE + 1), (HUGE + 1, HUGE)]
        for one, other in itertools.product(fractions, repeat=2):
            left, right = Fraction(*one), Fraction(*other)
            self.assertEqual(plus(one, other), as_pair(left + right))
            self.assertEqual(less(one, other), as_pair(left - right))
            self.assertEqual(times(one, other), as_pair(left * right))
            self.assertIs(below(one, other), left < right)
        self.assertLess(time.monotonic() - begun, 20)


if __name__ == "__main__":
    unittest.main()
