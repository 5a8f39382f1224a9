"""What lies nearest: how far apart, the mean, the majority [2, 3, 17]."""

import itertools
import time
import unittest
from fractions import Fraction

from asking import AskCase
from hoopcord.counting import how_many
from hoopcord.errors import NoBase
from hoopcord.fractions import below, reduced
from hoopcord.nearness import far, majority, mean_far, nearest
from hoopcord.numbering import shape_at
from hoopcord.pricing import price
from hoopcord.shapes import is_shape
from hoopcord.shares import all_shares
from listing import all_shapes, book_of, in_a_row, nested
from reckoning import mean_by_hand, part_by_hand, some_books, some_cords, weights_by_hand
from samples import BOOK, GREATEST_BOOK, HUGE, LEAST_BOOK, with_part

GAPLESS = with_part(BOOK, 0, 0)
NESTING = (0, (("a", "b", -3),), (("a", "b", "a", "b", -2),), (4, 3), (1, 2), (3, -1, 1))
CHEAP = (0, (("a", "b", -9), ("c", "d", -5)), (("a", "b", "a", "b", -9),), (0,), (9,), (0, -3, 0))

ASKED = list(zip(some_books(40, 41), some_cords(40, 8, 42))) + [
    (LEAST_BOOK, ""), (LEAST_BOOK, "abc"), (BOOK, "abeabe"), (GAPLESS, "aabbabcd"), (GREATEST_BOOK, "zzzzzzgggg"),
    (book_of(0, "aa"), "aaaaaa"), (NESTING, "aabb"), (CHEAP, "aaabbb"), (CHEAP, "abcdab"), (BOOK, ""), (BOOK, "a"),
]


class Far(AskCase):
    def assert_far(self, one, other, told):
        self.assert_told(told, far, one, other)
        self.assert_told(told, far, other, one)

    def test_by_hand(self):
        self.assert_far((), (), 0)
        self.assert_far((), ((0, 1),), 1)
        self.assert_far(((0, 1),), ((0, 1),), 0)
        self.assert_far(((0, 1),), ((0, 2),), 2)
        self.assert_far(((0, 3), (1, 2)), ((0, 3),), 1)
        self.assert_far(((0, 3), (1, 2)), ((0, 1), (2, 3)), 4)
        self.assert_far(((0, 5), (1, 2), (3, 4)), ((1, 2), (3, 4)), 1)
        self.assert_far(nested(20), in_a_row(20), 20)
        self.assert_far(nested(18), in_a_row(18), 16)
        self.assert_far(nested(20), nested(20)[1:], 1)

    def test_every_two_shapes(self):
        shapes = all_shapes(book_of(0, "aa"), "aaaaa")
        for one, other in itertools.product(shapes, repeat=2):
            self.assert_told(len([hoop for hoop in one + other if (hoop in one) != (hoop in other)]), far, one, other)


class Nearest(AskCase):
    def test_a_cord_by_hand(self):
        # By base 2 the shapes of aabb weigh 2, 1, 2, 2, 2 and 32, the last one the nest.
        both = ((0, 3), (1, 2))
        self.assert_told(both, majority, NESTING, "aabb", 2)
        self.assert_told((2 * 2 + 1 * 1 + 2 * 3 + 2 * 3 + 2 * 1, 41), mean_far, NESTING, "aabb", both, 2)
        self.assert_told((both, (19, 41)), nearest, NESTING, "aabb", 2)
        self.assert_told((1 + 2 + 2 + 2 + 64, 41), mean_far, NESTING, "aabb", (), 2)
        self.assert_told(((), (1, 1)), nearest, NESTING, "aabb", 1)

    def test_no_letters_and_no_hoops(self):
        for book, cord in ((LEAST_BOOK, ""), (LEAST_BOOK, "abc"), (BOOK, ""), (BOOK, "ab")):
            for base in range(1, 10):
                self.assert_told((0, 1), mean_far, book, cord, (), base)
                self.assert_told((), majority, book, cord, base)
                self.assert_told(((), (0, 1)), nearest, book, cord, base)

    def test_a_share_of_just_one_half_is_not_above_it(self):
        book = book_of(0, "ab")
        self.assertEqual(all_shares(book, "ab", 1), [(0, 1, (1, 2))])
        self.assert_told((), majority, book, "ab", 1)
        self.assert_told(((), (1, 2)), nearest, book, "ab", 1)
        for cost in (-1, 0, 1):
            told = ((0, 1),) if cost < 0 else ()
            for base in range(2, 10):
                self.assert_told(told, majority, with_part(book, 1, (("a", "b", cost),)), "ab", base)

    def test_the_hoops_with_more_than_half_against_all_shapes(self):
        for book, cord in ASKED:
            for base in range(1, 10):
                weighed = weights_by_hand(book, cord, base)
                told = tuple(
                    (i, j) for i, j in itertools.combinations(range(len(cord)), 2)
                    if Fraction(*part_by_hand(weighed, lambda shape: (i, j) in shape)) > Fraction(1, 2)
                )
                self.assertIs(is_shape(book, cord, told), True)
                self.assert_told(told, majority, book, cord, base)

    def test_means_against_all_shapes_and_no_shape_has_a_lesser_one(self):
        for book, cord in ASKED:
            for base in (1, 2, 5, 9):
                weighed = weights_by_hand(book, cord, base)
                means = [mean_by_hand(weighed, shape) for shape, weight in weighed]
                for (shape, weight), mean in zip(weighed[::5], means[::5]):
                    told = (mean.numerator, mean.denominator)
                    self.assert_told(told, mean_far, book, cord, shape, base)
                shape, told = nearest(book, cord, base)
                self.assertEqual(Fraction(*told), min(means))
                self.assert_told((majority(book, cord, base), told), nearest, book, cord, base)
                self.assert_told(told, mean_far, book, cord, shape, base)

    def test_means_against_all_shapes_by_number(self):
        for book, cord in ((GAPLESS, "aabbe"), (CHEAP, "aabbcd"), (BOOK, "cabdee")):
            shapes = [shape_at(book, cord, number) for number in range(how_many(book, cord))]
            top = max(price(book, cord, shape) for shape in shapes)
            for base in (1, 9):
                weights = [base ** (top - price(book, cord, shape)) for shape in shapes]
                nearest_mean = nearest(book, cord, base)[1]
                for shape in shapes:
                    apart = sum(weight * far(shape, other) for other, weight in zip(shapes, weights))
                    self.assert_told(reduced(apart, sum(weights)), mean_far, book, cord, shape, base)
                    self.assertIs(below(mean_far(book, cord, shape, base), nearest_mean), False)

    def test_majorities_of_several_hoops(self):
        # So that the tests above are not of empty majorities alone.
        self.assert_told(((0, 5), (1, 4), (2, 3)), majority, CHEAP, "aaabbb", 9)
        self.assert_told(((0, 1), (2, 3), (4, 5)), majority, CHEAP, "abcdab", 3)
        self.assert_told(((0, 5), (1, 2), (3, 4)), majority, CHEAP, "aababb", 9)

    def test_twenty_letters_are_told_soon(self):
        begun = time.monotonic()
        for base in (1, 9):
            shape, mean = nearest(CHEAP, "a" * 10 + "b" * 10, base)
            self.assertEqual(shape, () if base == 1 else nested(20))
            self.assertEqual(mean_far(CHEAP, "a" * 10 + "b" * 10, shape, base), mean)
        self.assertLess(time.monotonic() - begun, 20)

    def test_no_base(self):
        for base in (0, 10, -1, 11, -9, HUGE, -HUGE, 10 * HUGE - 1, 1 - 10 * HUGE):
            for book, cord in ((NESTING, "aabb"), (LEAST_BOOK, ""), (LEAST_BOOK, "ab")):
                self.assert_refused(NoBase, mean_far, book, cord, (), base)
                self.assert_refused(NoBase, majority, book, cord, base)
                self.assert_refused(NoBase, nearest, book, cord, base)
            self.assert_refused(NoBase, mean_far, NESTING, "aabb", ((0, 3), (1, 2)), base)
            self.assert_told(((), (1, 1)), nearest, NESTING, "aabb", 1)


if __name__ == "__main__":
    unittest.main()
